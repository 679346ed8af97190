import PyProof.Rows.All
import Wide.All
import OpenK.KLine
import KE.KItem
import KE.KIsAll
import Wide.FinOn
import Lean
import PyProof.EqAt
import PyProof.EqKinds
import PyProof.TupleCall
import PyProof.NeKinds
import PyProof.DictUpdate
import PyProof.AttrMissHeap
import KE.KDictOf
import PyProof.TupleIter
import PyProof.WalksEnum
import PyProof.EnumMake
import PyProof.Rows.EnumRows
import PyProof.Rows.MaxTwoN
import PyProof.ZipIter
import PyProof.IsRules
import PyProof.DictRoadsH
import Wide.Seal
import PyProof.MeetsDict
import PyProof.DictIter
import PyProof.DictWalks
import KE.KDictList
import PyProof.Rows.SumAny
import PyProof.ListRange
import PyProof.AutoSeq1
import PyProof.WalkInts
import PyProof.SeqI3
import KE.KTextTable
import PyProof.MeetsStr
import PyProof.StrCalls5
import PyProof.Rows.TupDisplay
import PyProof.Rows.TupAdd
import PyProof.Rows.StrNews2
import PyProof.StrBlockI
import PyProof.DictTruth
import PyProof.Rows.SortShell
import PyProof.DictValues
import PyProof.ConsumeS
import PyProof.Draws
import PyProof.Rows.SetFrom
import PyProof.FactsAll.set_1
import KE.KDictSum
import PyProof.Rows.SortStr
import PyProof.Rows.SortWalk
import PyProof.Rows.TmSorted
import PyProof.Rows.CallKwBuiltin
import PySem.Challenge.RW_callmill_k76_whole_paper_of_a_pack
set_option Elab.async false
set_option linter.all false
set_option maxRecDepth 100000
set_option maxHeartbeats 4000000
namespace L2
open PySem PySem.Spec PyProof.Rows
def gS{α:Type _}{l:List α}{i:Nat}{a:α}(h:l[i]?=some a):=List.getElem?_eq_some_iff.mp h
def gO{α β:Type _}{f:α→β}{x:Option α}{b:β}(h:x.map f=some b):=Option.map_eq_some_iff.mp h
def gE:=@List.getElem?_eq_getElem
def gM:=@List.getElem?_map
def gI:=@List.mem_of_getElem?
def gP:=@Heap.get?_push_of_some
def wB:=@wpAny_bind
def gL:=@List.length_map
def gA{α:Type _}{a:α}{s t:List α}(h:a∈s++t):=List.mem_append.mp h
def gG{α:Type _}{a b:α}(h:a∈[b]):=List.mem_singleton.mp h
abbrev Key:=Sum Int Str
def keyIs:Key→Value→Bool
 | .inl k,v=>Value.isInt k v
 | .inr x,v=>Value.isStrOf x v
def keyH (w:World):Key→Int
 | .inl k=>hashInt k
 | .inr x=>hashStr w x
theorem a94:∀ {k:Key}{v:Value},keyIs k v=true→(∃ i t,k=Sum.inl i∧v=Value.int i t)∨(∃ x t,k=Sum.inr x∧v=Value.str x t)
 | .inl i,v,h=>by
   obtain ⟨t,e⟩:=Value.isInt_shape (k:=i) (v:=v) h
   exact .inl ⟨i,t,rfl,e⟩
 | .inr x,v,h=>by
   obtain ⟨t,e⟩:=Value.isStrOf_shape (x:=x) (v:=v) h
   exact .inr ⟨x,t,rfl,e⟩
theorem ba4 (i:Int) (t:Tok):keyIs (.inl i) (.int i t)=true:=by simp [keyIs,Value.isInt]
theorem ba5 (x:Str) (t:Tok):keyIs (.inr x) (.str x t)=true:=by simp [keyIs,Value.isStrOf]
theorem c45 (a b:Int):decide ((Sum.inl a:Key)=Sum.inl b)=(a == b):=by
 by_cases e:a=b
 · subst e; simp
 · have h:¬ (Sum.inl a:Key)=Sum.inl b:=fun q=>e (Sum.inl.inj q)
   rw [decide_eq_false h]
   exact (beq_eq_false_iff_ne.mpr e).symm
theorem c46 (a b:Str):decide ((Sum.inr a:Key)=Sum.inr b)=decide (a=b):=by
 by_cases e:a=b
 · subst e; simp
 · have h:¬ (Sum.inr a:Key)=Sum.inr b:=fun q=>e (Sum.inr.inj q)
   rw [decide_eq_false h,decide_eq_false e]
theorem c47 (a:Int) (b:Str):decide ((Sum.inl a:Key)=Sum.inr b)=false:=decide_eq_false (fun q=>nomatch q)
theorem c48 (a:Str) (b:Int):decide ((Sum.inr a:Key)=Sum.inl b)=false:=decide_eq_false (fun q=>nomatch q)
def mixKind (prog:Program) (w:World):PySem.KeyKind prog w Key where
 is:=keyIs
 hash:=keyH w
 inj:=fun v a b ha hb=>by
  rcases a94 ha with ⟨i,t,rfl,rfl⟩ | ⟨x,t,rfl,rfl⟩
  · rcases a94 hb with ⟨j,u,rfl,e⟩ | ⟨y,u,rfl,e⟩
    · injection e with e1 _; rw [e1]
    · exact nomatch e
  · rcases a94 hb with ⟨j,u,rfl,e⟩ | ⟨y,u,rfl,e⟩
    · exact nomatch e
    · injection e with e1 _; rw [e1]
 byValue:=fun k v h=>by
  rcases a94 h with ⟨i,t,rfl,rfl⟩ | ⟨x,t,rfl,rfl⟩ <;> rfl
 pyHash:=fun hv h=>by
  rcases a94 hv with ⟨i,t,rfl,rfl⟩ | ⟨x,t,rfl,rfl⟩
  · exact wpAny_pyHash_int h
  · exact wpAny_pyHash_str h
 eqBool:=fun hu hv h=>by
  rcases a94 hu with ⟨i,t,rfl,rfl⟩ | ⟨x,t,rfl,rfl⟩
  · rcases a94 hv with ⟨j,u,rfl,rfl⟩ | ⟨y,u,rfl,rfl⟩
    · rw [c45] at h; exact wpAny_eqBool_int h
    · rw [c47] at h; exact SeqAt.EqAt.int_str i t y u _ _ _ _ h
  · rcases a94 hv with ⟨j,u,rfl,rfl⟩ | ⟨y,u,rfl,rfl⟩
    · rw [c48] at h; exact SeqAt.EqAt.str_int x t j u _ _ _ _ h
    · rw [c46] at h; exact wpAny_eqBool_str h
 «strs»:=fun k x t v h=>by
  rcases a94 h with ⟨i,u,rfl,e⟩ | ⟨y,u,rfl,e⟩
  · exact nomatch e
  · injection e with e1 _
    subst e1
    cases v <;> rfl
theorem ay0 (prog:Program) (w:World) (i:Int) (t:Tok):(mixKind prog w).is (.inl i) (.int i t)=true:=ba4 i t
theorem ay1 (prog:Program) (w:World) (x:Str) (t:Tok):(mixKind prog w).is (.inr x) (.str x t)=true:=ba5 x t
inductive V where
 | non | bl (b:Bool) | int (i:Int) | str (x:Str) | byt (b:Array UInt8) | flt (b:UInt64) | ref (a:Addr) | ty (n:String)
 deriving DecidableEq
def RelV:V→Value→Prop
 | .non,u=>u=Value.none
 | .bl b,u=>u=Value.bool b
 | .int i,u=>∃ t,u=Value.int i t
 | .str x,u=>∃ t,u=Value.str x t
 | .byt b,u=>∃ t,u=Value.bytes b t
 | .flt b,u=>∃ t,u=Value.float b t
 | .ref a,u=>u=Value.ref a
 | .ty n,u=>u=Value.type n
abbrev Vals:List V→List Value→Prop:=Paired RelV
theorem Vals.length {xs:List V}{us:List Value}(r:Vals xs us):xs.length=us.length:=Paired.length r
theorem Vals.get:∀ {xs:List V}{us:List Value}{i:Nat}{x:V},Vals xs us→xs[i]?=some x→∃ u,us[i]?=some u∧RelV x u
 | _,_,_,_,.nil,e=>by simp at e
 | _,_,0,_,.cons r _,e=>by simp at e; subst e; exact ⟨_,rfl,r⟩
 | _,_,i+1,x,.cons _ t,e=>by
   obtain ⟨u,h1,h2⟩:=Vals.get (i:=i) (x:=x) t (by simpa using e)
   exact ⟨u,by simpa using h1,h2⟩
theorem Vals.set {x:V}{u:Value}(r:RelV x u):∀ {xs:List V}{us:List Value}(i:Nat),Vals xs us→Vals (xs.set i x) (us.set i u)
 | _,_,_,.nil=>.nil
 | _,_,0,.cons _ t=>.cons r t
 | _,_,i+1,.cons q t=>.cons q (Vals.set r i t)
theorem Vals.append:∀ {xs ys:List V}{us ws:List Value},Vals xs us→Vals ys ws→Vals (xs++ys) (us++ws)
 | _,_,_,_,.nil,s=>s
 | _,_,_,_,.cons r t,s=>.cons r (Vals.append t s)
theorem Vals.take:∀ {xs:List V}{us:List Value}(n:Nat),Vals xs us→Vals (xs.take n) (us.take n)
 | _,_,0,_=>.nil
 | _,_,_+1,.nil=>.nil
 | _,_,n+1,.cons r t=>.cons r (Vals.take n t)
theorem Vals.drop:∀ {xs:List V}{us:List Value}(n:Nat),Vals xs us→Vals (xs.drop n) (us.drop n)
 | _,_,0,r=>r
 | _,_,_+1,.nil=>.nil
 | _,_,n+1,.cons _ t=>Vals.drop n t
def RelO:Option V→Option Value→Prop
 | some v,some u=>RelV v u
 | none,none=>True
 | _,_=>False
def KV {κ:Type}:List (κ×V)→List (κ×Value)→Prop:=Paired fun (p:κ×V) (q:κ×Value)=>p.1=q.1∧RelV p.2 q.2
def kV:Key→V
 | .inl i=>.int i
 | .inr x=>.str x
inductive HO where
 | lst (xs:List V)
 | tup (xs:List V)
 | dK (kvs:List (Key×V)) | dT (kvs:List (List Key×V))
 | set (S:Int→Bool) (n:Nat)
 | ins (C dx:Addr) (fs:List (Str×V))
 | own (x:Addr)
 | xd (fs:List (Str×V))
 | met (f x:Addr)
 | rng (lo hi:Int)
 | frz (o:Obj) (u:HO)
 | tbl (ps:Array Value)
 | ext (φ:Heap→Prop)
abbrev Hp:=Addr→Option HO
def upd (H:Hp) (a:Addr) (o:HO):Hp:=fun b=>if b=a then some o else H b
theorem a41 {H:Hp}{a:Addr}{o:HO}:upd H a o a=some o:=by unfold upd; rw [if_pos rfl]
theorem a09 {H:Hp}{a b:Addr}{o:HO}(h:b≠a):upd H a o b=H b:=by unfold upd; rw [if_neg h]
theorem ba6 {H:Hp}{a:Addr}{o u:HO}:upd (upd H a o) a u=upd H a u:=by
 funext b; unfold upd; split <;> rfl
theorem ag4 {H:Hp}{a b:Addr}{o u:HO}(h:H a=some o) (h':H b=some u) (d:o≠u):a≠b:=by
 intro e; subst e; rw [h] at h'; exact d (Option.some.inj h')
theorem a05 {H:Hp}{a b:Addr}{o:HO}(h:H a=some o) (h':H b=none):a≠b:=by
 intro e; subst e; rw [h] at h'; cases h'
section
variable (P:Program) (w:World)
def ObjOk (H:Hp) (h:Heap) (a:Addr):HO→Prop
 | .lst xs=>xs.length≤sizeLine∧∃ (its:List Value) (n:Nat),Vals xs its∧h.get? a=some { cls:=.type "list",data:=.seq its.toArray n }
 | .tup xs=>xs.length≤sizeLine∧∃ its:List Value,Vals xs its∧IsTup h a its.toArray
 | .dK kvs=>kvs.length≤sizeLine∧(a == sysModules)=false∧∃ vs,KV kvs vs∧h.DictOf (mixKind P w) a vs
 | .dT kvs=>kvs.length≤sizeLine∧(a == sysModules)=false∧∃ xs:List (List Key×Addr×Value),
  Paired (fun (p:List Key×V) (q:List Key×Addr×Value)=>p.1=q.1∧H q.2.1=some (.tup (p.1.map kV))∧RelV p.2 q.2.2) kvs xs ∧
  ∃ o es ep,h.get? a=some o∧o.ExactDict∧o.data=.dict es ep∧es.toList=xs.map (entryOfKey (tupleKind (mixKind P w)))∧(xs.map (·.1)).Nodup
 | .set S n=>h.SetOf (intKind P w) a S n
 | .ins C dx fs=>H dx=some (.own a)∧fs.length≤1000∧dx≠a∧h.get? a=some (W.instObj C dx) ∧
  ∃ mA,h.Ns1 dx mA∧(∀ f,RelO (fs.lookup f) (mA f))∧PySem.Within mA (fs.map (·.1))
 | .own _=>∃ o,h.get? a=some o
 | .xd fs=>∃ mA,h.Ns1 a mA∧∀ f,RelO (fs.lookup f) (mA f)
 | .rng lo hi=>∃ t u v,h.get? a=some { cls:=.type "range",data:=.fields #[.int lo t,.int hi u,.int 1 v] }
 | .frz o u=>h.get? a=some o∧ObjOk H h a u
 | .tbl ps=>h.get? a=some { cls:=.none,data:=.fields ps }
 | .met f x=>h.get? a=some (W.methodObj (.ref f) (.ref x))
 | .ext φ=>φ h∧(∃ o,h.get? a=some o)∧∀ h1 h2:Heap,φ h1→(∀ o,h1.get? a=some o→h2.get? a=some o)→φ h2
def HOk (H:Hp) (h:Heap):Prop:=∀ a o,H a=some o→ObjOk P w H h a o
end
section
variable {P:Program}{w:World}{H H':Hp}{h h':Heap}{a:Addr}{o:HO}
theorem ObjOk.lt (x:ObjOk P w H h a o):a<h.objs.size:=by
 cases o with
 | lst xs=>obtain ⟨_,_,_,_,e⟩:=x; exact Heap.lt_size e
 | tup xs=>obtain ⟨_,_,_,p⟩:=x; exact p.lt
 | dK kvs=>obtain ⟨_,_,_,_,o,_,_,e,_⟩:=x; exact Heap.lt_size e
 | dT kvs=>obtain ⟨_,_,_,_,o,_,_,e,_⟩:=x; exact Heap.lt_size e
 | set S n=>obtain ⟨o,_,_,_,e,_⟩:=x; exact Heap.lt_size e
 | ins C dx fs=>obtain ⟨_,_,_,e,_⟩:=x; exact Heap.lt_size e
 | own y=>obtain ⟨_,e⟩:=x; exact Heap.lt_size e
 | xd fs=>obtain ⟨_,⟨_,_,_,e,_⟩,_⟩:=x; exact Heap.lt_size e
 | rng lo hi=>obtain ⟨_,_,_,e⟩:=x; exact Heap.lt_size e
 | frz ob u=>obtain ⟨e,_⟩:=x; exact Heap.lt_size e
 | tbl ps=>exact Heap.lt_size (show h.get? a=some _ from x)
 | met f y=>exact Heap.lt_size (show h.get? a=some _ from x)
 | ext φ=>obtain ⟨_,⟨_,e⟩,_⟩:=x; exact Heap.lt_size e
theorem Paired.mapP {α β:Type}{F G:α→β→Prop}:∀ {l₁:List α}{l₂:List β},Paired F l₁ l₂→(∀ a b,F a b→G a b)→Paired G l₁ l₂
 | _,_,.nil,_=>.nil
 | _,_,.cons r t,f=>.cons (f _ _ r) (Paired.mapP t f)
theorem ObjOk.stay (x:ObjOk P w H h a o) (k:∀ b u,(b=a∨H b=some (.own a))→h.get? b=some u→h'.get? b=some u)
 (ho:∀ b,H b=some (.own a)→H' b=some (.own a)) (ht:∀ b xs,H b=some (.tup xs)→H' b=some (.tup xs)):ObjOk P w H' h' a o:=by
 induction o with
 | lst xs=>obtain ⟨z,its,n,r,e⟩:=x; exact ⟨z,its,n,r,k _ _ (.inl rfl) e⟩
 | tup xs=>obtain ⟨z,its,r,ob,e,c⟩:=x; exact ⟨z,its,r,ob,k _ _ (.inl rfl) e,c⟩
 | dK kvs=>obtain ⟨z,y,vs,r,ob,es,ep,e,c⟩:=x; exact ⟨z,y,vs,r,ob,es,ep,k _ _ (.inl rfl) e,c⟩
 | dT kvs =>
   obtain ⟨z,y,xs,r,ob,es,ep,e,c⟩:=x
   exact ⟨z,y,xs,Paired.mapP r fun p q z=>⟨z.1,ht _ _ z.2.1,z.2.2⟩,ob,es,ep,k _ _ (.inl rfl) e,c⟩
 | set S n=>obtain ⟨ob,es,ep,t,e,c⟩:=x; exact ⟨ob,es,ep,t,k _ _ (.inl rfl) e,c⟩
 | ins C dx fs =>
   obtain ⟨d,z,ne,e,mA,⟨od,es,ep,e2,c⟩,r⟩:=x
   exact ⟨ho _ d,z,ne,k _ _ (.inl rfl) e,mA,⟨od,es,ep,k _ _ (.inr d) e2,c⟩,r⟩
 | own y=>obtain ⟨ob,e⟩:=x; exact ⟨ob,k _ _ (.inl rfl) e⟩
 | xd fs=>obtain ⟨mA,⟨od,es,ep,e,c⟩,r⟩:=x; exact ⟨mA,⟨od,es,ep,k _ _ (.inl rfl) e,c⟩,r⟩
 | rng lo hi=>obtain ⟨t,u,v,e⟩:=x; exact ⟨t,u,v,k _ _ (.inl rfl) e⟩
 | frz ob u ih=>obtain ⟨e,q⟩:=x; exact ⟨k _ _ (.inl rfl) e,ih q⟩
 | tbl ps =>
   have e:h.get? a=some { cls:=.none,data:=.fields ps }:=x
   show h'.get? a=some { cls:=.none,data:=.fields ps }
   exact k a _ (.inl rfl) e
 | met f y =>
   have e:h.get? a=some (W.methodObj (.ref f) (.ref y)):=x
   show h'.get? a=some (W.methodObj (.ref f) (.ref y))
   exact k a _ (.inl rfl) e
 | ext φ=>obtain ⟨p,⟨o,e⟩,st⟩:=x; exact ⟨st _ _ p fun o q=>k _ _ (.inl rfl) q,⟨o,k _ _ (.inl rfl) e⟩,st⟩
theorem HOk.lt (x:HOk P w H h) (e:H a=some o):a<h.objs.size:=(x a o e).lt
theorem HOk.fresh (x:HOk P w H h) (e:h.objs.size≤a):H a=none:=by
 cases q:H a with
 | none=>rfl
 | some u=>exact absurd (Nat.lt_of_lt_of_le (x.lt q) e) (Nat.lt_irrefl _)
theorem HOk.kept (x:HOk P w H h) (k:∀ b u,h.get? b=some u→h'.get? b=some u):HOk P w H h':=fun a o e =>
 (x a o e).stay (fun b u _ q=>k b u q) (fun _ q=>q) fun _ _ q=>q
theorem HOk.laid (x:HOk P w H h) (k:∀ b u,h.get? b=some u→h'.get? b=some u) (hp:h.objs.size≤a) (new:ObjOk P w (upd H a o) h' a o):HOk P w (upd H a o) h':=fun b u e=>by
 have hn:=x.fresh hp
 by_cases hb:b=a
 · subst hb; rw [a41] at e; cases e; exact new
 · rw [a09 hb] at e
   exact (x b u e).stay (fun c v _ q=>k c v q) (fun c q=>by rw [a09 (a05 q hn)]; exact q) fun c xs q=>by rw [a09 (a05 q hn)]; exact q
end
def Rd (H:Hp) (a:Addr) (u:HO):Prop:=H a=some u∨∃ o,H a=some (.frz o u)
theorem Rd.ok {P:Program}{w:World}{H:Hp}{h:Heap}{a:Addr}{u:HO}(r:Rd H a u) (x:HOk P w H h):ObjOk P w H h a u:=by
 rcases r with r | ⟨o,r⟩
 · exact x a u r
 · obtain ⟨_,q⟩:=x a _ r
   exact q
def Mut:Option HO→Prop
 | some (.lst _)=>True
 | some (.dK _)=>True
 | some (.dT _)=>True
 | some (.set _ _)=>True
 | some (.ins _ _ _)=>True
 | some (.ext _)=>True
 | _=>False
section
variable {P:Program}{w:World}{H:Hp}{h h':Heap}{x e:Addr}{o':HO}
theorem HOk.write (ok:HOk P w H h) (mu:Mut (H x)) (he:e=x∨H e=some (.own x)) (k:∀ b u,b≠e→h.get? b=some u→h'.get? b=some u) (heo:∃ u,h'.get? e=some u)
 (new:ObjOk P w (upd H x o') h' x o'):HOk P w (upd H x o') h':=fun b u q=>by
 have nown:∀ c y,H c=some (.own y)→c≠x:=fun c y r z=>by subst z; rw [r] at mu; exact mu
 have ntup:∀ c xs,H c=some (.tup xs)→c≠x:=fun c xs r z=>by subst z; rw [r] at mu; exact mu
 by_cases hb:b=x
 · subst hb; rw [a41] at q; cases q; exact new
 · rw [a09 hb] at q
   by_cases hbe:b=e
   · have q':H b=some (.own x):=by
      rcases he with z | z
      · exact absurd (hbe.trans z) hb
      · rw [hbe]; exact z
     rw [q] at q'; cases q'
     obtain ⟨v,hv⟩:=heo
     exact ⟨v,by rw [hbe]; exact hv⟩
   · refine (ok b u q).stay (fun c v hc r=>k c v ?_ r) (fun c r=>by rw [a09 (nown c b r)]; exact r) fun c xs r=>by rw [a09 (ntup c xs r)]; exact r
     rcases hc with rfl | hc
     · exact hbe
     · rintro rfl
       rcases he with z | z
       · exact nown c b hc z
       · rw [hc] at z; cases z; exact hb rfl
end
structure Un (fs ex:List Addr) (H H':Hp) (h h':Heap):Prop where
 keep:∀ b o,h.get? b=some o→H b=none→b∉fs→b∉ex→h'.get? b=some o
 slot:∀ b o,h.get? b=some o→H b=none→b∈fs→b∉ex→∃ sl,h'.get? b=some { o with slots:=sl }
 free:∀ b o,h.get? b=some o→H b=none→b∉ex→H' b=none
 there:∀ b o,h.get? b=some o→b∉ex→∃ o',h'.get? b=some o'
 tups:∀ b xs,H b=some (.tup xs)→H' b=some (.tup xs)
 frzs:∀ b o u,H b=some (.frz o u)→H' b=some (.frz o u)
 tbls:∀ b ps,H b=some (.tbl ps)→∃ more,H' b=some (.tbl (ps++more))
section
variable {fs fs' ex ex':List Addr}{H H1 H2:Hp}{h h1 h2 h':Heap}{a x e:Addr}{o:HO}
theorem Un.any (u:Un fs ex H H1 h h1) {b:Addr}{ob:Obj}(q:h.get? b=some ob) (n:H b=none) (hx:b∉ex):∃ sl,h1.get? b=some { ob with slots:=sl }:=by
 by_cases hb:b∈fs
 · exact u.slot b ob q n hb hx
 · exact ⟨ob.slots,u.keep b ob q n hb hx⟩
theorem Un.kept (k:∀ b u,h.get? b=some u→h'.get? b=some u):Un fs ex H H h h' :=
 ⟨fun b ob q _ _ _=>k b ob q,fun b ob q _ _ _=>⟨ob.slots,k b ob q⟩,fun _ _ _ n _=>n,fun b ob q _=>⟨ob,k b ob q⟩,fun _ _ q=>q,fun _ _ _ q=>q,fun _ ps q=>⟨#[],by rw [q]; simp⟩⟩
theorem Un.refl:Un fs ex H H h h:=Un.kept fun _ _ q=>q
theorem Un.laid (k:∀ b u,h.get? b=some u→h'.get? b=some u) (hp:h.objs.size≤a) (hn:H a=none):Un fs ex H (upd H a o) h h' where
 keep:=fun b u q _ _ _=>k b u q
 slot:=fun b u q _ _ _=>⟨u.slots,k b u q⟩
 free:=fun b u q n _=>by rw [a09 (Nat.ne_of_lt (Nat.lt_of_lt_of_le (Heap.lt_size q) hp))]; exact n
 there:=fun b u q _=>⟨u,k b u q⟩
 tups:=fun b xs q=>by rw [a09 (a05 q hn)]; exact q
 frzs:=fun b u xs q=>by rw [a09 (a05 q hn)]; exact q
 tbls:=fun b ps q=>⟨#[],by rw [a09 (a05 q hn),q]; simp⟩
theorem Un.write (mu:Mut (H x)) (he:e=x∨H e=some (.own x)) (k:∀ b u,b≠e→h.get? b=some u→h'.get? b=some u) (heo:∃ u,h'.get? e=some u):Un fs ex H (upd H x o) h h':=by
 have hx:∀ b,H b=none→b≠x:=fun b n z=>by subst z; rw [n] at mu; exact mu
 have hb:∀ b,H b=none→b≠e:=fun b n z=>by
  subst z
  rcases he with r | r
  · exact hx b n r
  · rw [n] at r; cases r
 have hm:∀ b u,H b=some u→¬ Mut (some u)→b≠x:=fun b u q nm z=>by subst z; rw [q] at mu; exact nm mu
 refine ⟨fun b u q n _ _=>k b u (hb b n) q,fun b u q n _ _=>⟨u.slots,k b u (hb b n) q⟩,fun b u q n _=>by rw [a09 (hx b n)]; exact n,fun b u q _=>?_,
  fun b xs q=>by rw [a09 (hm b _ q fun z=>z)]; exact q,fun b u xs q=>by rw [a09 (hm b _ q fun z=>z)]; exact q,fun b ps q=>⟨#[],by rw [a09 (hm b _ q fun z=>z),q]; simp⟩⟩
 by_cases hbe:b=e
 · subst hbe; exact heo
 · exact ⟨u,k b u hbe q⟩
end
def trk (h:Heap) (H:Hp):List Addr:=(List.range h.objs.size).filter fun a=>(H a).isSome
def hidT (h:Heap) (H:Hp):Heap:=W.hideAll h (trk h H)
theorem ba7 (h:Heap) (H:Hp):(hidT h H).objs.size=h.objs.size:=W.hideAll_size _ _
theorem bl4 {h:Heap}{H:Hp}{b:Addr}{o:Obj}(e:h.get? b=some o) (n:H b=none):(hidT h H).get? b=some o :=
 W.hideAll_get _ e fun hm=>by
  have q:(H b).isSome=true:=(List.mem_filter.mp hm).2
  rw [n] at q; simp at q
theorem bv1 {h:Heap}{H:Hp}{b:Addr}{o:Obj}(e:(hidT h H).get? b=some o):h.get? b=some o∧H b=none:=by
 have e':h.get? b=some o:=W.of_hideAll (trk h H) e
 refine ⟨e',?_⟩
 cases q:H b with
 | none=>rfl
 | some x =>
   have hm:b∈trk h H:=List.mem_filter.mpr ⟨List.mem_range.mpr (Heap.lt_size e'),by simp [q]⟩
   have z:(hidT h H).get? b=none:=W.hideAll_none (trk h H) hm
   rw [z] at e; cases e
def allNews (g h:Heap) (L:Addr):List (Addr×Obj):=(List.range h.objs.size).filterMap fun a=>if a=L∨(g.get? a).isSome=true then none else (h.get? a).map fun o=>(a,o)
def rest (g h:Heap) (L d:Addr):List (Addr×Obj):=(allNews g h L).filter fun p=>decide (p.1≠d)
structure Mod (K:W.Frag) (mg:Str→Option Value) (base:Heap):Prop where
 kin:K.In base
 glob:base.Ns mainGlobals mg
 blt:∃ mb,base.Ns builtinsNs mb∧∀ x:Str,x≠"__name__"→mb x=bootBuiltins x
 nolimit:base.NoLimit
structure Cx where
 prog:Program
 w:World
 K:W.Frag
 mg:Str→Option Value
 base:Heap
 A:Around
 N:List Str
 s₀:Shared
 H₀:Hp
 env:Env
 outer:List Env
 stack:List Env
 ex:List Addr
 fn:Str→Bool
 calm:Bool
 pn:List (Addr×Obj)
 xe:Value→Shared→Prop
def frs (l:List Env):List Addr:=l.filterMap (·.frame)
abbrev Cx.fs (X:Cx):List Addr:=frs X.outer
def Vis (sc:Scope) (x:Str):Prop:=sc.names.lookup x=some .local∨sc.names.lookup x=some .cell∨sc.names.lookup x=some .free
def Loc (sc:Scope) (x:Str):Prop:=sc.names.lookup x=some .local∨sc.names.lookup x=some .cell
def Look (env:Env) (h:Heap) (m:Str→Option Value) (x:Str) (u:Value):Prop :=
 (env.kindOf x=some .local∧m x=some u)∨((env.kindOf x=some .cell∨env.kindOf x=some .free)∧∃ c,env.cells.lookup x=some c∧h.IsCell c (some u))
structure Cx.Ok (X:Cx):Prop where
 mod:Mod X.K X.mg X.base
 kind:X.env.scope.kind=.function
 glob:X.env.globals=mainGlobals
 blt:X.env.builtins=builtinsNs
 above:X.s₀.heap.objs.size≤X.env.locals
 inj:∀ x y c,X.env.cells.lookup x=some c→X.env.cells.lookup y=some c→x=y
 has:∀ x,(X.env.kindOf x=some .cell∨X.env.kindOf x=some .free)→∃ c,X.env.cells.lookup x=some c
 cab:∀ x c,X.fn x=true→X.env.cells.lookup x=some c→X.s₀.heap.objs.size≤c
 hd:X.calm=true→X.A.handled=none
 frames:X.A.frames=some X.stack
 stk:X.stack=X.outer∨(X.stack=X.env::X.outer∧X.env.frame=some X.env.locals)
 exf:∀ b∈X.ex,b≠X.env.locals∧∀ x c,X.env.cells.lookup x=some c→c≠b
 bs:∀ b o,X.base.get? b=some o→X.s₀.heap.get? b=some o∧X.H₀ b=none
 bsz:X.base.objs.size≤X.s₀.heap.objs.size
 noex:∀ b o,X.base.get? b=some o→b∉X.ex
 exfs:∀ b∈X.ex,b∉X.fs
 funs:X.s₀.heap.FunFrames X.base X.outer
 frf:∀ b∈X.fs,X.H₀ b=none
structure Inv (X:Cx) (pins:List (Addr×Obj)) (σ:List (Option V)) (H:Hp) (s:Shared):Prop where
 ok:X.Ok
 os:s.os=X.s₀.os
 bare:AllBare s.gens
 base:Un X.fs X.ex X.H₀ H X.s₀.heap s.heap
 loc:∃ m,s.heap.Ns X.env.locals m∧∀ (i:Nat) (x:Str) (v:V),X.N[i]?=some x→σ[i]?=some (some v)→Vis X.env.scope x→∃ u,RelV v u∧Look X.env s.heap m x u
 cell:∀ x c,X.env.cells.lookup x=some c→∃ v,s.heap.IsCell c v
 free:H X.env.locals=none
 freeC:∀ x c,X.env.cells.lookup x=some c→H c=none
 pin:∀ p∈X.pn++pins,s.heap.get? p.1=some p.2∧H p.1=none∧p.1≠X.env.locals∧p.1∉X.fs∧∀ v,p.2.data≠.cell v
 hok:HOk X.prog X.w H s.heap
 len:σ.length=X.N.length
section
variable {X:Cx}{pins:List (Addr×Obj)}{σ:List (Option V)} {H H':Hp}{s:Shared}{h':Heap}
theorem Cx.Ok.nofr (ok:X.Ok) {b:Addr}{o:Obj}(e:X.base.get? b=some o):b∉X.fs:=fun hb=>by
 have:=(ok.funs.mem hb).1
 rw [e] at this; cases this
theorem Inv.bs (I:Inv X pins σ H s):∀ b o,X.base.get? b=some o→s.heap.get? b=some o∧H b=none:=fun b o e =>
 ⟨I.base.keep b o (I.ok.bs b o e).1 (I.ok.bs b o e).2 (I.ok.nofr e) (I.ok.noex b o e),I.base.free b o (I.ok.bs b o e).1 (I.ok.bs b o e).2 (I.ok.noex b o e)⟩
theorem Inv.bk (I:Inv X pins σ H s):∀ b o,X.base.get? b=some o→s.heap.get? b=some o:=fun b o e=>(I.bs b o e).1
theorem Inv.mod (I:Inv X pins σ H s):Mod X.K X.mg X.base:=I.ok.mod
theorem Inv.kIn (I:Inv X pins σ H s):X.K.In s.heap:=I.ok.mod.kin.keeps I.bk
theorem Inv.lt (I:Inv X pins σ H s):X.env.locals<s.heap.objs.size:=let ⟨_,hn,_⟩:=I.loc; hn.lt
theorem Inv.sz (I:Inv X pins σ H s):X.s₀.heap.objs.size≤s.heap.objs.size:=Nat.le_trans I.ok.above (Nat.le_of_lt I.lt)
theorem Inv.nofs (I:Inv X pins σ H s) {a:Addr}(h:s.heap.objs.size≤a):a∉X.fs:=fun hb=>by
 obtain ⟨_,o,ho,_⟩:=I.ok.funs.mem hb
 exact absurd (Nat.lt_of_lt_of_le (Heap.lt_size ho) (Nat.le_trans I.sz h)) (Nat.lt_irrefl _)
theorem Inv.cne (I:Inv X pins σ H s):∀ x c,X.env.cells.lookup x=some c→c≠X.env.locals:=fun x c e z=>by
 obtain ⟨v,o,ho,hd⟩:=I.cell x c e
 obtain ⟨m,⟨o',es,ep,ho',hd',_⟩,_⟩:=I.loc
 rw [z,ho'] at ho; cases ho; rw [hd'] at hd; cases hd
theorem Inv.funs (I:Inv X pins σ H s):s.heap.FunFrames X.base X.outer:=by
 have all:∀ (l:List Env),(∀ b∈frs l,b∈X.fs)→X.s₀.heap.FunFrames X.base l→s.heap.FunFrames X.base l:=by
  intro l
  induction l with
  | nil=>intro _ _; trivial
  | cons env r ih =>
    intro hs hl
    obtain ⟨hk,⟨L,o,hf,hn,ho,hd⟩,hr⟩:=hl
    have hL:L∈X.fs:=hs L (by unfold frs; rw [List.filterMap_cons,hf]; exact List.mem_cons_self)
    obtain ⟨sl,e⟩:=I.base.slot L o ho (I.ok.frf L hL) hL fun z=>I.ok.exfs L z hL
    exact ⟨hk,⟨L,_,hf,hn,e,hd⟩,ih (fun b hb=>hs b (by unfold frs; rw [List.filterMap_cons,hf]; exact List.mem_cons_of_mem _ hb)) hr⟩
 exact all X.outer (fun _ hb=>hb) I.ok.funs
theorem Inv.stack (I:Inv X pins σ H s):s.heap.FunFrames X.base X.stack:=by
 rcases I.ok.stk with e | ⟨e,hf⟩
 · rw [e]; exact I.funs
 · rw [e]
   obtain ⟨m,hn,_⟩:=I.loc
   refine .cons (by rw [I.ok.kind]; decide) hf hn ?_ I.funs
   exact Heap.get?_none_of_le (Nat.le_trans I.ok.bsz I.ok.above)
theorem Inv.stkSub (I:Inv X pins σ H s):∀ b∈frs X.stack,b∈X.env.locals::X.fs:=fun b hb=>by
 rcases I.ok.stk with e | ⟨e,hf⟩
 · rw [e] at hb; exact List.mem_cons_of_mem _ hb
 · rw [e] at hb
   unfold frs at hb
   rw [List.filterMap_cons,hf] at hb
   exact hb
theorem Inv.stkFree (I:Inv X pins σ H s):∀ b∈frs X.stack,H b=none:=fun b hb=>by
 rcases List.mem_cons.mp (I.stkSub b hb) with e | hb
 · rw [e]; exact I.free
 · obtain ⟨_,o,ho,_⟩:=I.ok.funs.mem hb
   exact I.base.free b o ho (I.ok.frf b hb) fun z=>I.ok.exfs b z hb
theorem Inv.step {g':Array GenState}{t':Nat}{d':Drawn}{ch:List Addr}(I:Inv X pins σ H s)
 (hch:∀ b∈ch,(b∈X.ex∨X.s₀.heap.objs.size≤b)∧b≠X.env.locals∧(∀ x c,X.env.cells.lookup x=some c→c≠b)∧∀ p∈X.pn++pins,p.1≠b)
 (keep:∀ b o,b≠X.env.locals→b∉X.fs→b∉ch→s.heap.get? b=some o→H b=none→h'.get? b=some o)
 (slot:∀ b o,b≠X.env.locals→b∈X.fs→b∉ch→s.heap.get? b=some o→H b=none→∃ sl,h'.get? b=some { o with slots:=sl }) (free:∀ b o,b∉ch→s.heap.get? b=some o→H b=none→H' b=none)
 (there:∀ b o,b∉ch→s.heap.get? b=some o→∃ o',h'.get? b=some o')
 (tups:∀ b xs,H b=some (.tup xs)→H' b=some (.tup xs)) (frzs:∀ b o u,H b=some (.frz o u)→H' b=some (.frz o u)) (tbls:∀ b ps,H b=some (.tbl ps)→∃ more,H' b=some (.tbl (ps++more)))
 (ns:∀ m,s.heap.Ns X.env.locals m→h'.Ns X.env.locals m) (hok:HOk X.prog X.w H' h') (hg:AllBare g') :
 Inv X pins σ H' { s with heap:=h',gens:=g',drawn:=d',toks:=t' }:=by
 have neL:∀ b o,X.s₀.heap.get? b=some o→b≠X.env.locals:=fun b o e=>Nat.ne_of_lt (Nat.lt_of_lt_of_le (Heap.lt_size e) I.ok.above)
 have neC:∀ b o,X.s₀.heap.get? b=some o→b∉X.ex→b∉ch:=fun b o e hx hb=>by
  rcases (hch b hb).1 with z | z
  · exact hx z
  · exact absurd (Nat.lt_of_lt_of_le (Heap.lt_size e) z) (Nat.lt_irrefl _)
 have cellK:∀ x c,X.env.cells.lookup x=some c→∀ v,s.heap.IsCell c v→h'.IsCell c v:=fun x c e v ⟨o,ho,hd⟩=>by
  have nch:c∉ch:=fun z=>(hch c z).2.2.1 x c e rfl
  by_cases hc:c∈X.fs
  · obtain ⟨sl,q⟩:=slot c o (I.cne x c e) hc nch ho (I.freeC x c e)
    exact ⟨_,q,hd⟩
  · exact ⟨o,keep c o (I.cne x c e) hc nch ho (I.freeC x c e),hd⟩
 refine ⟨I.ok,I.os,hg,⟨fun b o e n hb hx=>?_,fun b o e n hb hx=>?_,fun b o e n hx=>?_,fun b o e hx=>?_,fun b xs e=>tups b xs (I.base.tups b xs e),fun b o xs e=>frzs b o xs (I.base.frzs b o xs e),fun b ps e=>?_⟩,?_,fun x c e=>?_,?_,fun x c e=>?_,fun p hp=>?_,hok,I.len⟩
 · exact keep b o (neL b o e) hb (neC b o e hx) (I.base.keep b o e n hb hx) (I.base.free b o e n hx)
 · obtain ⟨sl,e1⟩:=I.base.slot b o e n hb hx
   obtain ⟨sl',e2⟩:=slot b _ (neL b o e) hb (neC b o e hx) e1 (I.base.free b o e n hx)
   exact ⟨sl',e2⟩
 · obtain ⟨o',e1⟩:=I.base.there b o e hx
   exact free b o' (neC b o e hx) e1 (I.base.free b o e n hx)
 · obtain ⟨o',e1⟩:=I.base.there b o e hx
   exact there b o' (neC b o e hx) e1
 · obtain ⟨m1,e1⟩:=I.base.tbls b ps e
   obtain ⟨m2,e2⟩:=tbls b _ e1
   exact ⟨m1++m2,by rw [e2,Array.append_assoc]⟩
 · obtain ⟨m,hn,hl⟩:=I.loc
   refine ⟨m,ns m hn,fun i x v e1 e2 e3=>?_⟩
   obtain ⟨u,r,l⟩:=hl i x v e1 e2 e3
   refine ⟨u,r,?_⟩
   rcases l with l | ⟨k,c,e,z⟩
   · exact .inl l
   · exact .inr ⟨k,c,e,cellK x c e _ z⟩
 · obtain ⟨v,z⟩:=I.cell x c e
   exact ⟨v,cellK x c e v z⟩
 · obtain ⟨m,⟨o,_,_,ho,_⟩,_⟩:=I.loc
   exact free _ o (fun z=>(hch _ z).2.1 rfl) ho I.free
 · obtain ⟨v,o,ho,hd⟩:=I.cell x c e
   exact free c o (fun z=>(hch c z).2.2.1 x c e rfl) ho (I.freeC x c e)
 · obtain ⟨e,n,ne,nf,d⟩:=I.pin p hp
   have nch:p.1∉ch:=fun z=>(hch p.1 z).2.2.2 p hp rfl
   exact ⟨keep p.1 p.2 ne nf nch e n,free p.1 p.2 nch e n,ne,nf,d⟩
theorem Inv.un {t':Nat}(I:Inv X pins σ H s) (u:Un X.fs [] H H' s.heap h') (hok:HOk X.prog X.w H' h'):Inv X pins σ H' { s with heap:=h',toks:=t' }:=by
 obtain ⟨m,⟨o,es,ep,ho,r⟩,_⟩:=id I.loc
 obtain ⟨sl,hL⟩:=u.any ho I.free (by simp)
 exact I.step (g':=s.gens) (d':=s.drawn) (ch:=[]) (fun _ z=>nomatch z) (fun b o _ hb _ e n=>u.keep b o e n hb (by simp)) (fun b o _ hb _ e n=>u.slot b o e n hb (by simp)) (fun b o _ e n=>u.free b o e n (by simp)) (fun b o _ e=>u.there b o e (by simp)) u.tups u.frzs u.tbls (fun m' hm=>by
  obtain ⟨o',es',ep',ho',r'⟩:=hm
  rw [ho] at ho'; cases ho'
  exact ⟨_,es',ep',hL,r'⟩) hok I.bare
theorem Inv.call {g':Array GenState}{t':Nat}{d':Drawn}{ch:List Addr}(I:Inv X pins σ H s) (u:Un (frs X.stack) ch H H' s.heap h') (hok:HOk X.prog X.w H' h') (hg:AllBare g')
 (hch:∀ b∈ch,(b∈X.ex∨X.s₀.heap.objs.size≤b)∧b≠X.env.locals∧(∀ x c,X.env.cells.lookup x=some c→c≠b)∧∀ p∈X.pn++pins,p.1≠b) :
 Inv X pins σ H' { s with heap:=h',gens:=g',drawn:=d',toks:=t' }:=by
 obtain ⟨m,⟨o,es,ep,ho,r⟩,_⟩:=id I.loc
 obtain ⟨sl,hL⟩:=u.any ho I.free fun z=>(hch _ z).2.1 rfl
 exact I.step (ch:=ch) hch (fun b o hL hb hc e n=>u.keep b o e n (fun z=>(List.mem_cons.mp (I.stkSub b z)).elim hL hb) hc) (fun b o _ _ hc e n=>u.any e n hc) (fun b o hc e n=>u.free b o e n hc) (fun b o hc e=>u.there b o e hc) u.tups u.frzs u.tbls (fun m' hm=>by
  obtain ⟨o',es',ep',ho',r'⟩:=hm
  rw [ho] at ho'; cases ho'
  exact ⟨_,es',ep',hL,r'⟩) hok hg
theorem Inv.turned {t':Nat}{it:Addr}(I:Inv X pins σ H s) (k:∀ b o,b≠it→s.heap.get? b=some o→h'.get? b=some o) (hn:H it=none) (hL:it≠X.env.locals)
 (h1:it∈X.ex∨X.s₀.heap.objs.size≤it) (h2:∀ x c,X.env.cells.lookup x=some c→c≠it) (h3:∀ p∈X.pn++pins,p.1≠it):Inv X pins σ H { s with heap:=h',toks:=t' }:=by
 have nit:∀ b u,H b=some u→b≠it:=fun b u e z=>by rw [z,hn] at e; cases e
 refine I.step (g':=s.gens) (d':=s.drawn) (ch:=[it]) (fun b hb=>?_) (fun b o _ _ hc e _=>k b o (fun z=>hc (by simp [z])) e) (fun b o _ _ hc e _=>⟨o.slots,k b o (fun z=>hc (by simp [z])) e⟩) (fun _ _ _ _ n=>n)
  (fun b o hc e=>⟨o,k b o (fun z=>hc (by simp [z])) e⟩) (fun _ _ e=>e) (fun _ _ _ e=>e) (fun b ps e=>⟨#[],by rw [e]; simp⟩) (fun m hm=>?_) (fun b u e=>?_) I.bare
 · have e:b=it:=by simpa using hb
   subst e
   exact ⟨h1,hL,h2,h3⟩
 · obtain ⟨o,es,ep,ho,r⟩:=hm
   exact ⟨o,es,ep,k _ o (Ne.symm hL) ho,r⟩
 · refine (I.hok b u e).stay (fun c v hc q=>k c v ?_ q) (fun _ q=>q) fun _ _ q=>q
   rcases hc with z | z
   · rw [z]; exact nit b u e
   · exact nit c _ z
theorem Inv.tok (I:Inv X pins σ H s) (t:Nat):Inv X pins σ H { s with toks:=t }:=I.un (h':=s.heap) (t':=t) Un.refl I.hok
theorem Inv.kept {t':Nat}(I:Inv X pins σ H s) (k:∀ b u,s.heap.get? b=some u→h'.get? b=some u):Inv X pins σ H { s with heap:=h',toks:=t' }:=I.un (Un.kept k) (I.hok.kept k)
theorem Inv.laid {a:Addr}{o:HO}{t':Nat}(I:Inv X pins σ H s) (k:∀ b u,s.heap.get? b=some u→h'.get? b=some u) (hp:s.heap.objs.size≤a) (new:ObjOk X.prog X.w (upd H a o) h' a o) :
 Inv X pins σ (upd H a o) { s with heap:=h',toks:=t' }:=I.un (Un.laid k hp (I.hok.fresh hp)) (I.hok.laid k hp new)
theorem Inv.write {x e:Addr}{o:HO}{t':Nat}(I:Inv X pins σ H s) (mu:Mut (H x)) (he:e=x∨H e=some (.own x)) (k:∀ b u,b≠e→s.heap.get? b=some u→h'.get? b=some u) (heo:∃ u,h'.get? e=some u)
 (new:ObjOk X.prog X.w (upd H x o) h' x o):Inv X pins σ (upd H x o) { s with heap:=h',toks:=t' }:=I.un (Un.write mu he k heo) (I.hok.write mu he k heo new)
theorem Inv.pins_of {pins':List (Addr×Obj)}(I:Inv X pins σ H s) (h:∀ p∈pins',s.heap.get? p.1=some p.2∧H p.1=none∧p.1≠X.env.locals∧p.1∉X.fs∧∀ v,p.2.data≠.cell v):Inv X pins' σ H s :=
 ⟨I.ok,I.os,I.bare,I.base,I.loc,I.cell,I.free,I.freeC,fun p hp=>(gA hp).elim (fun z=>I.pin p (List.mem_append_left _ z)) (h p),I.hok,I.len⟩
theorem b44 {N:List Str}(hN:N.Nodup) {i j:Nat}{x:Str}(a:N[i]?=some x) (b:N[j]?=some x):i=j:=by
 obtain ⟨h1,e1⟩:=gS a
 obtain ⟨h2,e2⟩:=gS b
 exact (List.getElem_inj hN).mp (e1.trans e2.symm)
theorem at7 {M:Model}{A:Around}{E:Value→Shared→Prop}{i:Nat}{x:Str}{v:V}{u:Value}{Q:Unit→Shared→Prop}(I:Inv X pins σ H s) (hN:X.N.Nodup) (hi:X.N[i]?=some x) (hx:Loc X.env.scope x) (r:RelV v u)
 (h:∀ s',Inv X pins (σ.set i (some v)) H s'→(∃ a,Heap.SameBut a s.heap s'.heap∧(a=X.env.locals∨X.env.cells.lookup x=some a))→Q () s') (hf:X.fn x=true∨X.env.scope.names.lookup x=some .local:=by first | exact .inl rfl | exact .inr rfl | assumption):wpAny M A (storeName X.env x u) Q E s:=by
 obtain ⟨m,hn,hl⟩:=id I.loc
 have hcls:(X.env.scope.kind == .class || (X.env.scope.kind == .module && X.env.locals != X.env.globals))=false:=by rw [I.ok.kind]; rfl
 have hiσ:i<σ.length:=by rw [I.len]; exact (gS hi).1
 have cne:=I.cne
 have tracked:∀ {a:Addr}{h':Heap},(∃ o,s.heap.get? a=some o∧H a=none)→Heap.SameBut a s.heap h'→HOk X.prog X.w H h':=fun {a h'} ha hs b ob e=>by
  obtain ⟨_,_,hfree⟩:=ha
  refine (I.hok b ob e).stay (fun c w' hc q=>(hs.2 c ?_).trans q) (fun _ q=>q) fun _ _ q=>q
  rintro rfl
  rcases hc with rfl | hc
  · rw [hfree] at e; cases e
  · rw [hfree] at hc; cases hc
 rcases hx with hk | hk
 · refine wpAny_storeName_local hk hn (fun h' hn' hs=>?_) hcls
   obtain ⟨oL,_,_,hoL,_⟩:=id hn
   refine h _ ⟨I.ok,I.os,I.bare,⟨fun b o e n hb hx=>?_,fun b o e n hb hx=>?_,I.base.free,fun b o e hx=>?_,I.base.tups,I.base.frzs,I.base.tbls⟩,⟨_,hn',fun j y v' e1 e2 e3=>?_⟩,fun y c e=>?_,I.free,I.freeC,fun p hp=>?_,tracked ⟨oL,hoL,I.free⟩ hs,by simpa using I.len⟩ ⟨_,hs,.inl rfl⟩
   · exact (hs.2 b (Nat.ne_of_lt (Nat.lt_of_lt_of_le (Heap.lt_size e) I.ok.above))).trans (I.base.keep b o e n hb hx)
   · obtain ⟨sl,e1⟩:=I.base.slot b o e n hb hx
     exact ⟨sl,(hs.2 b (Nat.ne_of_lt (Nat.lt_of_lt_of_le (Heap.lt_size e) I.ok.above))).trans e1⟩
   · obtain ⟨o',e1⟩:=I.base.there b o e hx
     exact ⟨o',(hs.2 b (Nat.ne_of_lt (Nat.lt_of_lt_of_le (Heap.lt_size e) I.ok.above))).trans e1⟩
   · by_cases hj:j=i
     · subst hj
       rw [hi] at e1; cases e1
       rw [List.getElem?_set_self hiσ] at e2
       cases e2
       exact ⟨u,r,.inl ⟨hk,by simp⟩⟩
     · rw [List.getElem?_set_ne (Ne.symm hj)] at e2
       obtain ⟨u',r',q⟩:=hl j y v' e1 e2 e3
       refine ⟨u',r',?_⟩
       rcases q with ⟨k,e⟩ | ⟨k,c,e,z⟩
       · refine .inl ⟨k,?_⟩
         have:y≠x:=fun e=>hj (b44 hN e1 (e ▸ hi))
         simp [this,e]
       · exact .inr ⟨k,c,e,z.sameBut hs (cne y c e)⟩
   · obtain ⟨w',z⟩:=I.cell y c e
     exact ⟨w',z.sameBut hs (cne y c e)⟩
   · obtain ⟨e,n,ne,nf,d⟩:=I.pin p hp
     exact ⟨(hs.2 p.1 ne).trans e,n,ne,nf,d⟩
 · have hfn:X.fn x=true:=by
    rcases hf with z | z
    · exact z
    · rw [z] at hk; cases hk
   obtain ⟨c,hc⟩:=I.ok.has x (.inl hk)
   obtain ⟨w',z⟩:=I.cell x c hc
   refine wpAny_storeName_cell I.ok.kind hk hc z (fun h' hc' hs=>?_)
   obtain ⟨oc,hoc,hocd⟩:=id z
   refine h { s with heap:=h' } ⟨I.ok,I.os,I.bare,⟨fun b o e n hb hx=>?_,fun b o e n hb hx=>?_,I.base.free,fun b o e hx=>?_,I.base.tups,I.base.frzs,I.base.tbls⟩,⟨m,hn.sameBut hs (Ne.symm (cne x c hc)),fun j y v' e1 e2 e3=>?_⟩,fun y c' e=>?_,I.free,I.freeC,fun p hp=>?_,tracked ⟨oc,hoc,I.freeC x c hc⟩ hs,by simpa using I.len⟩ ⟨c,hs,.inr hc⟩
   · exact (hs.2 b (Nat.ne_of_lt (Nat.lt_of_lt_of_le (Heap.lt_size e) (I.ok.cab x c hfn hc)))).trans (I.base.keep b o e n hb hx)
   · obtain ⟨sl,e1⟩:=I.base.slot b o e n hb hx
     exact ⟨sl,(hs.2 b (Nat.ne_of_lt (Nat.lt_of_lt_of_le (Heap.lt_size e) (I.ok.cab x c hfn hc)))).trans e1⟩
   · obtain ⟨o',e1⟩:=I.base.there b o e hx
     exact ⟨o',(hs.2 b (Nat.ne_of_lt (Nat.lt_of_lt_of_le (Heap.lt_size e) (I.ok.cab x c hfn hc)))).trans e1⟩
   · by_cases hj:j=i
     · subst hj
       rw [hi] at e1; cases e1
       rw [List.getElem?_set_self hiσ] at e2
       cases e2
       exact ⟨u,r,.inr ⟨.inl hk,c,hc,hc'⟩⟩
     · rw [List.getElem?_set_ne (Ne.symm hj)] at e2
       obtain ⟨u',r',q⟩:=hl j y v' e1 e2 e3
       refine ⟨u',r',?_⟩
       rcases q with q | ⟨k,c',e,z'⟩
       · exact .inl q
       · refine .inr ⟨k,c',e,z'.sameBut hs ?_⟩
         rintro rfl
         exact hj (b44 hN e1 (I.ok.inj _ _ _ e hc ▸ hi))
   · by_cases hcc:c'=c
     · subst hcc; exact ⟨_,hc'⟩
     · obtain ⟨w2,z2⟩:=I.cell y c' e
       exact ⟨w2,z2.sameBut hs hcc⟩
   · obtain ⟨e,n,ne,nf,d⟩:=I.pin p hp
     refine ⟨(hs.2 p.1 ?_).trans e,n,ne,nf,d⟩
     intro q
     rw [q,hoc] at e
     have q':oc=p.2:=Option.some.inj e
     exact d w' (by rw [← q']; exact hocd)
theorem ar1 {M:Model}{A:Around}{E:Value→Shared→Prop}{i:Nat}{x:Str}{v:V}{u:Value}{Q:Unit→Shared→Prop}(I:Inv X pins σ H s) (hN:X.N.Nodup) (hi:X.N[i]?=some x) (hx:Loc X.env.scope x) (r:RelV v u)
 (h:∀ s',Inv X pins (σ.set i (some v)) H s'→Q () s') (hf:X.fn x=true∨X.env.scope.names.lookup x=some .local:=by first | exact .inl rfl | exact .inr rfl | assumption):wpAny M A (storeName X.env x u) Q E s :=
 at7 I hN hi hx r (fun s' I' _=>h s' I') hf
theorem Inv.call' {s':Shared}{ch:List Addr}(I:Inv X pins σ H s) (ho:s'.os=s.os) (u:Un (frs X.stack) ch H H' s.heap s'.heap) (hok:HOk X.prog X.w H' s'.heap) (hg:AllBare s'.gens)
 (hch:∀ b∈ch,(b∈X.ex∨X.s₀.heap.objs.size≤b)∧b≠X.env.locals∧(∀ x c,X.env.cells.lookup x=some c→c≠b)∧∀ p∈X.pn++pins,p.1≠b):Inv X pins σ H' s':=by
 obtain ⟨h',g',d',t',o'⟩:=s'
 have e:o'=s.os:=ho
 subst e
 exact I.call (g':=g') (t':=t') (d':=d') u hok hg hch
end
abbrev XK:=Value→Option Addr→Hp→Prop
abbrev St:=List (Option V)
abbrev VK:=V→Hp→Prop
abbrev TE:=St→Hp→VK→Prop
abbrev TT:=St→Hp→(Bool→Hp→Prop)→Prop
abbrev TA:=St→Hp→(List V→Hp→Prop)→Prop
structure Ends where
 nx:St→Hp→Prop
 rt:VK
 bk:St→Hp→Prop:=fun _ _=>False
 ct:St→Hp→Prop:=fun _ _=>False
abbrev TS:=Ends→St→Hp→Prop
def EP (X:Cx) (pins:List (Addr×Obj)) (σ:St) (Q:VK) (u:Value) (s':Shared):Prop:=∃ v H',Inv X pins σ H' s'∧RelV v u∧Q v H'
def TP (X:Cx) (pins:List (Addr×Obj)) (σ:St) (Q:Bool→Hp→Prop) (b:Bool) (s':Shared):Prop:=∃ H',Inv X pins σ H' s'∧Q b H'
def AP (X:Cx) (pins:List (Addr×Obj)) (σ:St) (Q:List V→Hp→Prop) (us:List Value) (s':Shared):Prop:=∃ vs H',Inv X pins σ H' s'∧Vals vs us∧Q vs H'
def SP (X:Cx) (pins:List (Addr×Obj)) (D:Ends) (f:Flow) (s':Shared):Prop :=
 match f with
 | .next=>∃ σ' H',Inv X pins σ' H' s'∧D.nx σ' H'
 | .brk=>∃ σ' H',Inv X pins σ' H' s'∧D.bk σ' H'
 | .cont=>∃ σ' H',Inv X pins σ' H' s'∧D.ct σ' H'
 | .ret u=>∃ v σ' H',Inv X pins σ' H' s'∧RelV v u∧D.rt v H'
def PE (X:Cx) (e:Expr) (t:TE):Prop :=
 ∀ (pins:List (Addr×Obj)) (s:Shared) (σ:St) (H:Hp) (Q:VK),Inv X pins σ H s→t σ H Q→wpAny (model X.prog X.w) X.A (eval e X.env) (EP X pins σ Q) X.xe s
def PT (X:Cx) (e:Expr) (t:TT):Prop :=
 ∀ (pins:List (Addr×Obj)) (s:Shared) (σ:St) (H:Hp) (Q:Bool→Hp→Prop),Inv X pins σ H s→t σ H Q→wpAny (model X.prog X.w) X.A (isTrue e X.env (eval e X.env)) (TP X pins σ Q) X.xe s
def PW (X:Cx) (e:Expr) (t:TT):Prop :=
 ∀ (whole:Sem Value) (pins:List (Addr×Obj)) (s:Shared) (σ:St) (H:Hp) (Q:Bool→Hp→Prop),Inv X pins σ H s→t σ H Q→wpAny (model X.prog X.w) X.A (isTrue e X.env whole) (TP X pins σ Q) X.xe s
theorem PW.pt {X:Cx}{e:Expr}{t:TT}(h:PW X e t):PT X e t:=h _
def PA (X:Cx) (es:List Expr) (t:TA):Prop :=
 ∀ (pos:Pos) (pins:List (Addr×Obj)) (s:Shared) (σ:St) (H:Hp) (Q:List V→Hp→Prop),Inv X pins σ H s→t σ H Q→wpAny (model X.prog X.w) X.A (spliced (backTo pos (starEach es X.env))) (AP X pins σ Q) X.xe s
def PS (X:Cx) (st:Stmt) (t:TS):Prop :=
 ∀ (pins:List (Addr×Obj)) (s:Shared) (σ:St) (H:Hp) (D:Ends),Inv X pins σ H s→t D σ H→wpAny (model X.prog X.w) X.A (exec st X.env) (SP X pins D) X.xe s
def PSs (X:Cx) (st:List Stmt) (t:TS):Prop :=
 ∀ (pins:List (Addr×Obj)) (s:Shared) (σ:St) (H:Hp) (D:Ends),Inv X pins σ H s→t D σ H→wpAny (model X.prog X.w) X.A (execs st X.env) (SP X pins D) X.xe s
theorem thn {α:Type}{t:Sem α}{Q Q':α→Shared→Prop}{M:Model}{A:Around}{E:Value→Shared→Prop}{s:Shared}(h:wpAny M A t Q E s) (hQ:∀ a s,Q a s→Q' a s):wpAny M A t Q' E s:=wpAny_mono h hQ fun _ _ x=>x
section
variable {X:Cx}
def tVar (i:Nat):TE:=fun σ H Q=>∃ v,σ[i]?=some (some v)∧Q v H
def tC (v:V):TE:=fun _ H Q=>Q v H
theorem c49 {i:Nat}{x:Str}{pos:Pos}(hN:X.N[i]?=some x) (hv:Vis X.env.scope x) (hd:(x == ("__debug__":Str))=false:=by decide) (hcd:(x == ("__classdict__":Str))=false:=by decide):PE X (.Name x pos) (tVar i):=by
 intro pins s σ H Q I h
 obtain ⟨v,e,h⟩:=h
 obtain ⟨m,hn,hl⟩:=I.loc
 obtain ⟨u,r,l⟩:=hl i x v hN e hv
 have fin:EP X pins σ Q u s:=⟨v,H,I,r,h⟩
 rcases l with ⟨hk,hm⟩ | ⟨hk,c,hc,hcell⟩
 · exact wpAny_Name (wpAny_loadName_local I.ok.kind hk hn hm fin) hd
 · rcases hk with hk | hk
   · exact wpAny_Name (wpAny_loadName_cell I.ok.kind hk hc hcell fin) hd
   · exact wpAny_Name (wpAny_loadName_free I.ok.kind hk hc hcell fin hcd) hd
theorem a03 {i j pos}:PE X (.Constant (.int i) j pos) (tC (.int i)):=fun _ _ _ H _ I h=>wpAny_Constant_int ⟨.int i,H,I.tok _,⟨_,rfl⟩,h⟩
theorem ag5 {b j pos}:PE X (.Constant (.bool b) j pos) (tC (.bl b)):=fun _ _ _ H _ I h=>Constant_bool ⟨.bl b,H,I,rfl,h⟩
theorem af0 {j pos}:PE X (.Constant .none j pos) (tC .non):=fun _ _ _ H _ I h=>Constant_none ⟨.non,H,I,rfl,h⟩
theorem ab8 {x j pos}:PE X (.Constant (.str x) j pos) (tC (.str x)):=fun _ _ _ H _ I h=>Calls.Constant_str ⟨.str x,H,I.tok _,⟨_,rfl⟩,h⟩
def Gl (X:Cx) (x:Str):Prop:=X.env.kindOf x=some .globalImplicit
theorem ay2 {E:Value→Shared→Prop}{pins:List (Addr×Obj)}{s:Shared}{σ:St} {H:Hp}{x:Str}{u:Value}{pos:Pos}{Q:Value→Shared→Prop}(I:Inv X pins σ H s) (hg:Gl X x) (hm:X.mg x=some u) (h:Q u s)
 (hd:(x == ("__debug__":Str))=false:=by decide):wpAny (model X.prog X.w) X.A (eval (.Name x pos) X.env) Q E s :=
 Calls.Name_function_global I.ok.kind hg (Calls.loadGlobal_global (by rw [I.ok.glob]; exact I.mod.glob.keeps I.bk) hm h) hd
theorem al3 {E:Value→Shared→Prop}{pins:List (Addr×Obj)}{s:Shared}{σ:St} {H:Hp}{x:Str}{u:Value}{pos:Pos}{Q:Value→Shared→Prop}(I:Inv X pins σ H s) (hg:Gl X x) (hm:X.mg x=none) (hv:bootBuiltins x=some u) (h:Q u s)
 (hn:x≠"__name__":=by decide) (hd:(x == ("__debug__":Str))=false:=by decide):wpAny (model X.prog X.w) X.A (eval (.Name x pos) X.env) Q E s:=by
 obtain ⟨mb,h1,h2⟩:=I.mod.blt
 exact Calls.Name_function_global I.ok.kind hg (Calls.loadGlobal_builtin (by rw [I.ok.glob]; exact I.mod.glob.keeps I.bk) hm (by rw [I.ok.blt]; exact h1.keeps I.bk) ((h2 x hn).trans hv) h) hd
theorem ak2 {x:Str}{v:V}{u:Value}{pos:Pos}(hg:Gl X x) (hm:X.mg x=some u) (r:RelV v u) (hd:(x == ("__debug__":Str))=false:=by decide):PE X (.Name x pos) (tC v) :=
 fun _ _ _ H _ I h=>ay2 I hg hm ⟨v,H,I,r,h⟩ hd
theorem ba8 {x:Str}{v:V}{u:Value}{pos:Pos}(hg:Gl X x) (hm:X.mg x=none) (hv:bootBuiltins x=some u) (r:RelV v u) (hn:x≠"__name__":=by decide) (hd:(x == ("__debug__":Str))=false:=by decide):PE X (.Name x pos) (tC v) :=
 fun _ _ _ H _ I h=>al3 I hg hm hv ⟨v,H,I,r,h⟩ hn hd
variable {a b:Expr}{ta tb:TE}{pos:Pos}
def PC (X:Cx) (op:CmpOp) (a b:Expr) (t:TE):Prop :=
 ∀ (pins:List (Addr×Obj)) (s:Shared) (σ:St) (H:Hp) (Q:VK),Inv X pins σ H s→t σ H Q →
  wpAny (model X.prog X.w) X.A (eval a X.env) (fun v s₁=>wpAny (model X.prog X.w) X.A (eval b X.env) (fun u s₂=>wpAny (model X.prog X.w) X.A (compareOp op v u) (EP X pins σ Q) X.xe s₂) X.xe s₁) X.xe s
theorem nobehind (b:Expr) {op:CmpOp}(h:op≠.In) (h2:op≠.NotIn):behindInMarks op b=false:=by
 have e1:(op == CmpOp.In)=false:=by cases op <;> first | rfl | exact absurd rfl h
 have e2:(op == CmpOp.NotIn)=false:=by cases op <;> first | rfl | exact absurd rfl h2
 cases b <;> simp [behindInMarks,e1,e2]
def tB (t:TE):TT:=fun σ H Q=>t σ H fun x H1=>∃ c,x=.bl c∧Q c H1
theorem at8 {op:CmpOp}{t:TE}(h:PC X op a b t) (h1:behindInMarks op b=false:=by first | exact nobehind _ (by decide) (by decide) | rfl):PT X (.Compare a [op] [b] pos) (tB t):=by
 intro pins s σ H Q I hw
 refine wpAny_isTrue_Compare1 (thn (h pins s σ H _ I hw) fun v s1 h1=>thn h1 fun u s2 h2=>thn h2 fun c s3 ⟨x,H1,I1,r1,q1⟩=>?_) h1
 obtain ⟨d,rfl,q⟩:=q1
 cases r1
 exact wpAny_truthy_bool ⟨H1,I1,q⟩
variable {tA tB':TT}{rest:List Expr}
def tAnd (t u:TT):TT:=fun σ H Q=>t σ H fun c H1=>if c=true then u σ H1 Q else Q false H1
def tOr (t u:TT):TT:=fun σ H Q=>t σ H fun c H1=>if c=true then Q true H1 else u σ H1 Q
def tNot (t:TT):TT:=fun σ H Q=>t σ H fun c H1=>Q (!c) H1
theorem ba9 (ha:PT X a tA):PW X (.BoolOp .And [a] pos) tA:=by
 intro wh pins s σ H Q I h
 refine isTrue_and (thn (ha pins s σ H Q I h) fun c s1 e=>?_)
 cases c with
 | true=>exact isTrue_and_nil e
 | false=>exact e
theorem b45 (ha:PT X a tA):PW X (.BoolOp .Or [a] pos) tA:=by
 intro wh pins s σ H Q I h
 refine isTrue_or (thn (ha pins s σ H Q I h) fun c s1 e=>?_)
 cases c with
 | false=>exact isTrue_or_nil e
 | true=>exact e
theorem bt4 (ha:PT X a tA) (hb:PW X (.BoolOp .And (b::rest) pos) tB'):PW X (.BoolOp .And (a::b::rest) pos) (tAnd tA tB'):=by
 intro wh pins s σ H Q I h
 refine isTrue_and (thn (ha pins s σ H _ I h) fun c s1 ⟨H1,I1,q1⟩=>?_)
 cases c with
 | true=>exact hb wh pins s1 σ H1 Q I1 q1
 | false=>exact ⟨H1,I1,q1⟩
theorem bl5 (ha:PT X a tA) (hb:PW X (.BoolOp .Or (b::rest) pos) tB'):PW X (.BoolOp .Or (a::b::rest) pos) (tOr tA tB'):=by
 intro wh pins s σ H Q I h
 refine isTrue_or (thn (ha pins s σ H _ I h) fun c s1 ⟨H1,I1,q1⟩=>?_)
 cases c with
 | true=>exact ⟨H1,I1,q1⟩
 | false=>exact hb wh pins s1 σ H1 Q I1 q1
theorem c50 (ha:PT X a tA):PT X (.UnaryOp .Not a pos) (tNot tA):=by
 intro pins s σ H Q I h
 exact isTrue_not (ha pins s σ H (fun c H1=>Q (!c) H1) I h)
def tAndV (ta tb:TE):TE:=fun σ H Q=>ta σ H fun x H1=>∃ c,x=.bl c∧if c=true then tb σ H1 Q else Q (.bl false) H1
theorem c51 {op}{t:TE}(h:PE X a t):PE X (.BoolOp op [a] pos) t:=fun pins s σ H Q I hw=>BoolOp_one (h pins s σ H Q I hw)
theorem c52 (ha:PE X a ta) (hb:PE X (.BoolOp .And (b::rest) pos) tb):PE X (.BoolOp .And (a::b::rest) pos) (tAndV ta tb):=by
 intro pins s σ H Q I h
 refine BoolOp_and (thn (ha pins s σ H _ I h) fun v s1 ⟨x,H1,I1,r1,q1⟩=>?_)
 obtain ⟨c,rfl,q1⟩:=q1
 cases r1
 refine wpAny_truthy_bool ?_
 cases c with
 | true=>exact hb pins s1 σ H1 Q I1 q1
 | false=>exact ⟨.bl false,H1,I1,rfl,q1⟩
def tIf (t:TT) (ta tb:TE):TE:=fun σ H Q=>t σ H fun c H1=>if c=true then ta σ H1 Q else tb σ H1 Q
theorem al6 {c:Expr}(hc:PT X c tA) (ha:PE X a ta) (hb:PE X b tb):PE X (.IfExp c a b pos) (tIf tA ta tb):=by
 intro pins s σ H Q I h
 refine wpAny_IfExp (thn (hc pins s σ H _ I h) fun d s1 ⟨H1,I1,q1⟩=>?_)
 cases d with
 | true=>exact ha pins s1 σ H1 Q I1 q1
 | false=>exact hb pins s1 σ H1 Q I1 q1
end
def SqL (K:W.Frag) (H:Hp) (a:Addr) (xs:List V):Prop :=
 Rd H a (.lst xs) ∨
  ∃ (o:Obj) (its:Array Value) (n:Nat),K.lookup a=some o∧o.cls=.type "list"∧o.dict=none∧o.data=.seq its n∧its.size≤sizeLine∧Vals xs its.toList
def SqT (K:W.Frag) (H:Hp) (a:Addr) (xs:List V):Prop :=
 Rd H a (.tup xs) ∨
  ∃ (o:Obj) (its:Array Value) (n:Nat),K.lookup a=some o∧o.cls=.type "tuple"∧o.data=.seq its n∧its.size≤sizeLine∧Vals xs its.toList
def absV:Value→Option V
 | .none=>some .non
 | .bool b=>some (.bl b)
 | .int i _=>some (.int i)
 | .str x _=>some (.str x)
 | .bytes b _=>some (.byt b)
 | .float b _=>some (.flt b)
 | .ref a=>some (.ref a)
 | .type n=>some (.ty n)
 | _=>none
theorem RelV.abs {x:V}{u:Value}(r:RelV x u):absV u=some x:=by
 cases x with
 | non=>cases r; rfl
 | bl _=>cases r; rfl
 | int _=>obtain ⟨t,rfl⟩:=r; rfl
 | str _=>obtain ⟨t,rfl⟩:=r; rfl
 | byt _=>obtain ⟨t,rfl⟩:=r; rfl
 | flt _=>obtain ⟨t,rfl⟩:=r; rfl
 | ref _=>cases r; rfl
 | ty _=>cases r; rfl
theorem RelV.inj {x y:V}{u:Value}(r:RelV x u) (q:RelV y u):x=y:=Option.some.inj (r.abs.symm.trans q.abs)
theorem Vals.inj:∀ {xs ys:List V}{us:List Value},Vals xs us→Vals ys us→xs=ys
 | _,_,_,.nil,.nil=>rfl
 | _,_,_,.cons r t,.cons r' t'=>by rw [r.inj r',Vals.inj t t']
section
variable {X:Cx}{pins:List (Addr×Obj)}{σ:St} {H:Hp}{s:Shared}{a:Addr}{xs ys:List V}
theorem SqL.of {K:W.Frag}(h:H a=some (.lst xs)):SqL K H a xs:=.inl (.inl h)
theorem SqT.of {K:W.Frag}(h:H a=some (.tup xs)):SqT K H a xs:=.inl (.inl h)
theorem Inv.list (I:Inv X pins σ H s) (h:SqL X.K H a xs):∃ its:List Value,Vals xs its∧PlainL s.heap a its.toArray∧xs.length≤sizeLine:=by
 rcases h with h | ⟨o,its,n,hk,hc,hd,hs,hz,r⟩
 · obtain ⟨z,its,n,r,e⟩:=h.ok I.hok
   exact ⟨its,r,⟨_,n,e,rfl,rfl,rfl⟩,z⟩
 · refine ⟨its.toList,r,⟨o,n,I.kIn a o hk,hc,hd,by simpa using hs⟩,?_⟩
   have e:=r.length
   simp only [Array.length_toList] at e
   omega
theorem Inv.tuple (I:Inv X pins σ H s) (h:SqT X.K H a xs):∃ its:List Value,Vals xs its∧IsTup s.heap a its.toArray∧xs.length≤sizeLine:=by
 rcases h with h | ⟨o,its,n,hk,hc,hs,hz,r⟩
 · obtain ⟨z,its,r,p⟩:=h.ok I.hok
   exact ⟨its,r,p,z⟩
 · refine ⟨its.toList,r,⟨o,I.kIn a o hk,hc,n,by simpa using hs⟩,?_⟩
   have e:=r.length
   simp only [Array.length_toList] at e
   omega
theorem Inv.list_inj (I:Inv X pins σ H s) (h:SqL X.K H a xs) (h':SqL X.K H a ys):xs=ys:=by
 obtain ⟨its,r,⟨o,n,e,_,_,d⟩,_⟩:=I.list h
 obtain ⟨its',r',⟨o',n',e',_,_,d'⟩,_⟩:=I.list h'
 rw [e] at e'; cases e'
 rw [d] at d'
 injection d' with d1 _
 have:its=its':=by simpa using congrArg Array.toList d1
 subst this
 exact r.inj r'
theorem Inv.tuple_inj (I:Inv X pins σ H s) (h:SqT X.K H a xs) (h':SqT X.K H a ys):xs=ys:=by
 obtain ⟨its,r,⟨o,e,_,n,d⟩,_⟩:=I.tuple h
 obtain ⟨its',r',⟨o',e',_,n',d'⟩,_⟩:=I.tuple h'
 rw [e] at e'; cases e'
 rw [d] at d'
 injection d' with d1 _
 have:its=its':=by simpa using congrArg Array.toList d1
 subst this
 exact r.inj r'
end
abbrev Cx.wish (X:Cx) (E:Value→Shared→Prop):Cx:={ X with xe:=E }
abbrev Cx.nox (X:Cx):Cx:=X.wish fun _ _=>False
theorem Cx.Ok.wish {X:Cx}(ok:X.Ok) (E:Value→Shared→Prop):(X.wish E).Ok :=
 ⟨ok.mod,ok.kind,ok.glob,ok.blt,ok.above,ok.inj,ok.has,ok.cab,ok.hd,ok.frames,ok.stk,ok.exf,ok.bs,ok.bsz,ok.noex,ok.exfs,ok.funs,ok.frf⟩
theorem Cx.Ok.unwish {X:Cx}{E:Value→Shared→Prop}(ok:(X.wish E).Ok):X.Ok :=
 ⟨ok.mod,ok.kind,ok.glob,ok.blt,ok.above,ok.inj,ok.has,ok.cab,ok.hd,ok.frames,ok.stk,ok.exf,ok.bs,ok.bsz,ok.noex,ok.exfs,ok.funs,ok.frf⟩
section
variable {X:Cx}{pins:List (Addr×Obj)}{σ:St} {H:Hp}{s:Shared}{E:Value→Shared→Prop}
theorem Inv.wish (I:Inv X pins σ H s) (E:Value→Shared→Prop):Inv (X.wish E) pins σ H s:=⟨I.ok.wish E,I.os,I.bare,I.base,I.loc,I.cell,I.free,I.freeC,I.pin,I.hok,I.len⟩
theorem Inv.unwish (I:Inv (X.wish E) pins σ H s):Inv X pins σ H s:=⟨I.ok.unwish,I.os,I.bare,I.base,I.loc,I.cell,I.free,I.freeC,I.pin,I.hok,I.len⟩
theorem SP.unwish {D:Ends}{f:Flow}{s':Shared}(h:SP (X.wish E) pins D f s'):SP X pins D f s':=by
 cases f with
 | next=>obtain ⟨σ',H',I,q⟩:=h; exact ⟨σ',H',I.unwish,q⟩
 | brk=>obtain ⟨σ',H',I,q⟩:=h; exact ⟨σ',H',I.unwish,q⟩
 | cont=>obtain ⟨σ',H',I,q⟩:=h; exact ⟨σ',H',I.unwish,q⟩
 | ret u=>obtain ⟨v,σ',H',I,r,q⟩:=h; exact ⟨v,σ',H',I.unwish,r,q⟩
theorem PSs.nox {st:List Stmt}{t:TS}(h:PSs X.nox st t):PSs X st t:=fun pins s σ H D I hw =>
 wpAny_mono (h pins s σ H D (I.wish _) hw) (fun _ _ q=>q.unwish) fun _ _ z=>False.elim z
end
section
variable {X:Cx}{st:Stmt}{rest:List Stmt}{t u:TS}{e:Expr}{te:TE}{pos:Pos}
def tNext:TS:=fun D σ H=>D.nx σ H
def tSeq (t u:TS):TS:=fun D σ H=>t { D with nx:=u D } σ H
theorem a84:PSs X [] tNext:=fun _ _ σ H _ I h=>wpAny_execs_nil ⟨σ,H,I,h⟩
theorem a02 (h1:PS X st t) (h2:PSs X rest u):PSs X (st::rest) (tSeq t u):=by
 intro pins s σ H D I h
 refine wpAny_execs_cons (thn (h1 pins s σ H { D with nx:=u D } I h) fun f s1 q=>?_)
 cases f with
 | next =>
   obtain ⟨σ',H',I',q⟩:=q
   exact h2 pins s1 σ' H' D I' q
 | ret v=>exact q
 | brk=>exact q
 | cont=>exact q
theorem a06 (h1:PS X st t):PSs X [st] t:=by
 intro pins s σ H D I h
 refine wpAny_execs_cons (thn (h1 pins s σ H D I h) fun f s1 q=>?_)
 cases f with
 | next=>exact wpAny_execs_nil q
 | ret v=>exact q
 | brk=>exact q
 | cont=>exact q
def tCont:TS:=fun D σ H=>D.ct σ H
theorem ay3:PS X (.Continue pos) tCont:=fun _ _ σ H _ I h=>wpAny_Continue ⟨σ,H,I,h⟩
theorem Inv.quiet {pins:List (Addr×Obj)}{σ:St} {H:Hp}{s:Shared}(I:Inv X pins σ H s):interactive X.env=false:=by simp [interactive,I.ok.kind]
def tDrop (te:TE):TS:=fun D σ H=>te σ H fun _ H1=>D.nx σ H1
theorem ab3 (he:PE X e te) (hs:swapsWith e none pos.line X.env=pure false:=by rfl):PS X (.Expr e pos) (tDrop te):=by
 intro pins s σ H D I h
 exact wpAny_Expr_any (thn (he pins s σ H _ I h) fun v s1 ⟨x,H1,I1,r1,q1⟩=>⟨σ,H1,I1,q1⟩) I.quiet hs
def tRet (te:TE):TS:=fun D σ H=>te σ H D.rt
theorem a54 (he:PE X e te):PS X (.Return (some e) pos) (tRet te):=by
 intro pins s σ H D I h
 exact wpAny_Return_some (thn (he pins s σ H _ I h) fun v s1 ⟨x,H1,I1,r1,q1⟩=>⟨x,σ,H1,I1,r1,q1⟩)
def tIfS (c:TT) (t u:TS):TS:=fun D σ H=>c σ H fun b H1=>if b=true then t D σ H1 else u D σ H1
theorem ad7 {c:Expr}{a b:List Stmt}{tc:TT}(hc:PT X c tc) (ha:PSs X a t) (hb:PSs X b u):PS X (.If c a b pos) (tIfS tc t u):=by
 intro pins s σ H D I h
 refine wpAny_If (thn (hc pins s σ H _ I h) fun d s1 ⟨H1,I1,q1⟩=>?_)
 cases d with
 | true=>exact ha pins s1 σ H1 D I1 q1
 | false=>exact hb pins s1 σ H1 D I1 q1
def tNever:TS:=fun _ _ _=>False
theorem b46:PS X st tNever:=fun _ _ _ _ _ _ h=>h.elim
end
abbrev TG:=V→St→Hp→(St→Hp→Prop)→Prop
abbrev TGs:=List V→St→Hp→(St→Hp→Prop)→Prop
def PG (X:Cx) (target:Expr) (t:TG):Prop :=
 ∀ (pins:List (Addr×Obj)) (s:Shared) (σ:St) (H:Hp) (v:V) (u:Value) (Q:St→Hp→Prop),Inv X pins σ H s→RelV v u→t v σ H Q →
  wpAny (model X.prog X.w) X.A (assign target X.env u) (fun _ s'=>∃ σ' H',Inv X pins σ' H' s'∧Q σ' H') X.xe s
def PGs (X:Cx) (ts:List Expr) (t:TGs):Prop :=
 ∀ (pins:List (Addr×Obj)) (s:Shared) (σ:St) (H:Hp) (vs:List V) (us:List Value) (Q:St→Hp→Prop),Inv X pins σ H s→Vals vs us→t vs σ H Q →
  wpAny (model X.prog X.w) X.A (assignInOrder ((assignEach ts X.env).map (·.2)) us) (fun _ s'=>∃ σ' H',Inv X pins σ' H' s'∧Q σ' H') X.xe s
abbrev TSet:=V→V→V→Hp→(Hp→Prop)→Prop
def PSet (X:Cx) (t:TSet):Prop :=
 ∀ (pins:List (Addr×Obj)) (s:Shared) (σ:St) (H:Hp) (o i v:V) (ov iv u:Value) (Q:Hp→Prop),Inv X pins σ H s→RelV o ov→RelV i iv→RelV v u→t o i v H Q →
  wpAny (model X.prog X.w) X.A (setItem ov iv u) (fun _ s'=>∃ H',Inv X pins σ H' s'∧Q H') X.xe s
abbrev TIp:=V→V→Hp→VK→Prop
def PIp (X:Cx) (op:Operator) (t:TIp):Prop :=
 ∀ (pins:List (Addr×Obj)) (s:Shared) (σ:St) (H:Hp) (x y:V) (v u:Value) (Q:VK),Inv X pins σ H s→RelV x v→RelV y u→t x y H Q →
  wpAny (model X.prog X.w) X.A (inplaceOp op v u) (EP X pins σ Q) X.xe s
section
variable {X:Cx}{pos:Pos}
def gName (i:Nat):TG:=fun v σ H Q=>Q (σ.set i (some v)) H
theorem a47 {i:Nat}{x:Str}(hN:X.N.Nodup) (hi:X.N[i]?=some x) (hx:Loc X.env.scope x) (hf:X.fn x=true∨X.env.scope.names.lookup x=some .local:=by first | exact .inl rfl | exact .inr rfl | assumption):PG X (.Name x pos) (gName i):=by
 intro pins s σ H v u Q I r h
 exact wpAny_assign_Name (ar1 I hN hi hx r (fun s' I'=>⟨_,H,I',h⟩) hf)
def gNil:TGs:=fun vs σ H Q=>vs=[]∧Q σ H
def gCons (t:TG) (u:TGs):TGs:=fun vs σ H Q=>∃ v r,vs=v::r∧t v σ H fun σ' H'=>u r σ' H' Q
theorem ae5:PGs X [] gNil:=by
 intro pins s σ H vs us Q I r h
 obtain ⟨e,h⟩:=h
 subst e
 cases r
 exact assignInOrder_nil ⟨σ,H,I,h⟩
theorem a71 {e:Expr}{es:List Expr}{t:TG}{u:TGs}(h1:PG X e t) (h2:PGs X es u)
 (hs:(assignEach (e::es) X.env).map (·.2)=assign e X.env::(assignEach es X.env).map (·.2):=by rfl):PGs X (e::es) (gCons t u):=by
 intro pins s σ H vs us Q I r h
 obtain ⟨v,vr,e1,h⟩:=h
 subst e1
 cases r with
 | cons r rr =>
   rw [hs]
   refine assignInOrder_cons (thn (h1 pins s σ H _ _ _ I r h) fun _ s1 ⟨σ1,H1,I1,q1⟩=>?_)
   exact h2 pins s1 σ1 H1 _ _ Q I1 rr q1
def gTup (K:W.Frag) (n:Nat) (t:TGs):TG:=fun v σ H Q=>∃ a xs,v=.ref a∧SqT K H a xs∧xs.length=n∧t xs σ H Q
theorem c53 {es:List Expr}{k:Nat}{t:TGs}{n:Nat}(hc:X.calm=true) (h:PGs X es t)
 (hn:(assignEach es X.env).length=n:=by rfl) (hst:(assignEach es X.env).findIdx? (·.1)=none:=by rfl):PG X (.Tuple es k pos) (gTup X.K n t):=by
 intro pins s σ H v u Q I r hw
 obtain ⟨a,xs,e1,hq,hl,hw⟩:=hw
 subst e1
 cases r
 obtain ⟨its,rv,ht,hz⟩:=I.tuple hq
 refine assign_Tuple_tuple (I.ok.hd hc) ht (by simp [hn,←hl,rv.length]) hst fun h' hx=>?_
 have I1:Inv X pins σ H { s with heap:=h' }:=I.kept (t':=s.toks) fun b o e=>hx b o (Nat.ne_of_lt (Heap.lt_size e)) e
 exact h pins _ σ H xs _ Q I1 (by simpa using rv) hw
def gSub (to ti:TE) (t:TSet):TG:=fun v σ H Q=>to σ H fun o H1=>ti σ H1 fun i H2=>t o i v H2 fun H3=>Q σ H3
theorem bb0 {o i:Expr}{to ti:TE}{t:TSet}(ho:PE X o to) (hi:PE X i ti) (hs:PSet X t)
 (ha:∀ v,assign (.Subscript o i pos) X.env v=(do
  let ov←holding [v] (eval o X.env)
  let iv←holding [v,ov] (eval i X.env)
  standAt pos
  holding [v,ov,iv] (setItem ov iv v)
  release [v,ov,iv] []):=by intro _; rfl):PG X (.Subscript o i pos) (gSub to ti t):=by
 intro pins s σ H v u Q I r h
 rw [ha]
 refine wB (wpAny_holding (thn (ho pins s σ H _ I h) fun ov s1 ⟨x,H1,I1,r1,q1⟩=>?_))
 refine wB (wpAny_holding (thn (hi pins s1 σ H1 _ I1 q1) fun iv s2 ⟨y,H2,I2,r2,q2⟩=>?_))
 refine wB (wpAny_standAt (wB (wpAny_holding (thn (hs pins s2 σ H2 x y v ov iv u _ I2 r1 r2 r q2) fun _ s3 ⟨H3,I3,q3⟩=>?_))))
 exact wpAny_release ⟨σ,H3,I3,q3⟩
def tAsg (te:TE) (g:TG):TS:=fun D σ H=>te σ H fun x H1=>g x σ H1 D.nx
theorem bb1 {tg e:Expr}{te:TE}{g:TG}(he:PE X e te) (hg:PG X tg g) (hs:swapsWithSole [tg] e pos.line X.env=pure false:=by rfl) (hw:swappedStores [tg] e X.env=pure none:=by rfl)
 (h1:(assignEach [tg] X.env).map (·.2)=[assign tg X.env]:=by rfl):PS X (.Assign [tg] e pos) (tAsg te g):=by
 intro pins s σ H D I h
 refine wpAny_Assign_stores (thn (he pins s σ H _ I h) fun v s1 ⟨x,H1,I1,r1,q1⟩=>?_) hs hw
 rw [h1]
 exact thn (hg pins s1 σ H1 x v _ I1 r1 q1) fun _ s2 q=>q
theorem a45 {i:Nat}{x:Str}{e:Expr}{te:TE}{pos':Pos}(hN:X.N.Nodup) (hi:X.N[i]?=some x) (hx:Loc X.env.scope x) (he:PE X e te) (hs:swapsWith e (some (.Name x pos')) pos.line X.env=pure false:=by rfl) (hf:X.fn x=true∨X.env.scope.names.lookup x=some .local:=by first | exact .inl rfl | exact .inr rfl | assumption) :
 PS X (.Assign [.Name x pos'] e pos) (tAsg te (gName i)):=by
 intro pins s σ H D I h
 refine wpAny_Assign_Name (thn (he pins s σ H _ I h) fun v s1 ⟨y,H1,I1,r1,q1⟩=>?_) hs
 exact ar1 I1 hN hi hx r1 (fun s2 I2=>⟨_,H1,I2,q1⟩) hf
def tAug (i:Nat) (te:TE) (ti:TIp):TS:=fun D σ H=>∃ x,σ[i]?=some (some x)∧te σ H fun y H1=>ti x y H1 fun z H2=>D.nx (σ.set i (some z)) H2
theorem bb2 {i:Nat}{x:Str}{e:Expr}{te:TE}{op:Operator}{ti:TIp}{pos':Pos}(hN:X.N.Nodup) (hi:X.N[i]?=some x) (hx:Loc X.env.scope x) (he:PE X e te) (ho:PIp X op ti) (hf:X.fn x=true∨X.env.scope.names.lookup x=some .local:=by first | exact .inl rfl | exact .inr rfl | assumption) :
 PS X (.AugAssign (.Name x pos') op e pos) (tAug i te ti):=by
 intro pins s σ H D I h
 obtain ⟨v,e1,h⟩:=h
 obtain ⟨m,hn,hl⟩:=I.loc
 have vis:Vis X.env.scope x:=by rcases hx with k | k; exact .inl k; exact .inr (.inl k)
 obtain ⟨u,r,l⟩:=hl i x v hi e1 vis
 refine wpAny_AugAssign_Name ?_
 have go:wpAny (model X.prog X.w) X.A (eval e X.env) (fun w s₂=>wpAny (model X.prog X.w) X.A (inplaceOp op u w) (fun r s₃=>wpAny (model X.prog X.w) X.A (storeName X.env x r) (fun _=>SP X pins D .next) X.xe s₃) X.xe s₂) X.xe s:=by
  refine thn (he pins s σ H _ I h) fun w s1 ⟨y,H1,I1,r1,q1⟩=>?_
  refine thn (ho pins s1 σ H1 v y u w _ I1 r r1 q1) fun z s2 ⟨zv,H2,I2,r2,q2⟩=>?_
  exact ar1 I2 hN hi hx r2 (fun s3 I3=>⟨_,H2,I3,q2⟩) hf
 rcases l with ⟨hk,hm⟩ | ⟨hk,c,hc,hcell⟩
 · exact wpAny_loadName_local I.ok.kind hk hn hm go
 · rcases hk with hk | hk
   · exact wpAny_loadName_cell I.ok.kind hk hc hcell go
   · rcases hx with k | k
     · have:X.env.scope.names.lookup x=some .free:=hk
       rw [k] at this; cases this
     · have:X.env.scope.names.lookup x=some .free:=hk
       rw [k] at this; cases this
def ipI (f:Int→Int→Int):TIp:=fun x y H Q=>∃ i j,x=.int i∧y=.int j∧Q (.int (f i j)) H
theorem bb3:PIp X .Add (ipI fun i j=>i+j):=by
 intro pins s σ H x y v u Q I r1 r2 h
 obtain ⟨i,j,e1,e2,q⟩:=h
 subst e1; subst e2
 obtain ⟨t,rfl⟩:=r1
 obtain ⟨t',rfl⟩:=r2
 exact iadd_int ⟨.int _,H,I.tok _,⟨_,rfl⟩,q⟩
end
section
variable {X:Cx}{pos:Pos}
def tWhile (c:TT) (tb:TS):TS:=fun D σ H=>∃ W:Nat→St→Hp→Prop,(∃ m,W m σ H)∧∀ m σ H,W m σ H →
 c σ H fun b H1=>if b=true then ∃ N:St→Hp→Prop,(∀ σ' H',N σ' H'→∃ m',m'<m∧W m' σ' H')∧tb { D with nx:=N,ct:=N,bk:=D.nx } σ H1 else D.nx σ H1
theorem al7 {c:Expr}{body:List Stmt}{tc:TT}{tb:TS}(hp:PassesOwn (model X.prog X.w) X.A X.env X.xe) (hc:PT X c tc) (hb:PSs X body tb):PS X (.While c body [] pos) (tWhile tc tb):=by
 intro pins s σ H D I h
 obtain ⟨W,⟨m0,w0⟩,turn⟩:=h
 refine wpAny_While (codeAny_whileLoop (fun n s'=>∃ σ' H',Inv X pins σ' H' s'∧W n σ' H') ?_ m0 ⟨σ,H,I,w0⟩)
 rintro n s1 ⟨σ1,H1,I1,w1⟩
 refine wpAny_passesOwn hp (thn (hc pins s1 σ1 H1 _ I1 (turn n σ1 H1 w1)) fun b s2 ⟨H2,I2,q2⟩=>?_)
 cases b with
 | true =>
   obtain ⟨N,hN,q2⟩:=q2
   rw [if_pos rfl]
   refine wpAny_passesOwn hp (thn (hb pins s2 σ1 H2 _ I2 q2) fun f s3 q3=>?_)
   cases f with
   | next =>
     obtain ⟨σ3,H3,I3,n3⟩:=q3
     obtain ⟨m',hm,w3⟩:=hN σ3 H3 n3
     exact ⟨m',hm,σ3,H3,I3,w3⟩
   | cont =>
     obtain ⟨σ3,H3,I3,n3⟩:=q3
     obtain ⟨m',hm,w3⟩:=hN σ3 H3 n3
     exact ⟨m',hm,σ3,H3,I3,w3⟩
   | brk=>exact q3
   | ret v=>exact q3
 | false =>
   rw [if_neg Bool.false_ne_true]
   exact wpAny_execs_nil ⟨σ1,H2,I2,q2⟩
end
structure It where
 go:Nat→Hp→Prop
 yld:Nat→Hp→V→Hp→Prop
 stop:Nat→Hp→Prop
def FpOk (X:Cx) (pins:List (Addr×Obj)) (H:Hp) (b:Addr):Prop :=
 H b=none∧b≠X.env.locals∧b∉X.fs∧(b∈X.ex∨X.s₀.heap.objs.size≤b)∧(∀ x c,X.env.cells.lookup x=some c→c≠b)∧∀ p∈X.pn++pins,p.1≠b
theorem Inv.fpOk {X:Cx}{pins:List (Addr×Obj)}{σ:St} {H H':Hp}{s:Shared}{b:Addr}(I:Inv X pins σ H s) (hb:s.heap.objs.size≤b) (hn:H' b=none):FpOk X pins H' b:=by
 refine ⟨hn,Nat.ne_of_gt (Nat.lt_of_lt_of_le I.lt hb),I.nofs hb,.inr (Nat.le_trans I.sz hb),fun x c e z=>?_,fun p hp z=>?_⟩
 · obtain ⟨v,q⟩:=I.cell x c e
   exact absurd (Nat.lt_of_lt_of_le q.lt (by rw [z]; exact hb)) (Nat.lt_irrefl _)
 · exact absurd (Nat.lt_of_lt_of_le (Heap.lt_size (I.pin p hp).1) (by rw [z]; exact hb)) (Nat.lt_irrefl _)
structure Turn (P:Program) (w:World) (K:W.Frag) (tg:Expr) (J:It) (fp:List Addr) (it:Addr) (tn:Nat→Heap→Prop):Prop where
 mem:it∈fp
 obj:∀ i h,tn i h→∀ b∈fp,∃ o,h.get? b=some o∧∀ v,o.data≠.cell v
 keep:∀ i h h',tn i h→(∀ b∈fp,∀ o,h.get? b=some o→h'.get? b=some o)→tn i h'
 item:∀ (X:Cx),X.prog=P→X.w=w→X.K=K→X.calm=true→∀ (i:Nat) (pins:List (Addr×Obj)) (s:Shared) (σ:St) (H:Hp) (E:Value→Shared→Prop),Inv X pins σ H s→(∀ b∈fp,FpOk X pins H b)→tn i s.heap→J.go i H →
  wpAny (model P w) X.A (pyNext (.ref it)) (fun r s1=>∃ u,r=some u ∧
   wpAny (model P w) X.A (letOwnedTupleGo tg (.ref it) u) (fun _ s2=>∃ x H',Inv X pins σ H' s2∧RelV x u∧J.yld i H x H'∧tn (i+1) s2.heap∧∀ b∈fp,H' b=none) E s1) E s
 done:∀ (X:Cx),X.prog=P→X.w=w→X.K=K→X.calm=true→∀ (i:Nat) (pins:List (Addr×Obj)) (s:Shared) (σ:St) (H:Hp) (E:Value→Shared→Prop),Inv X pins σ H s→(∀ b∈fp,FpOk X pins H b)→tn i s.heap→J.stop i H →
  wpAny (model P w) X.A (pyNext (.ref it)) (fun r s1=>r=none∧Inv X pins σ H s1) E s
 self:∀ (A:Around) (i:Nat) (s:Shared) (Q:Value→Shared→Prop) (E:Value→Shared→Prop),tn i s.heap→Q (.ref it) s→wpAny (model P w) A (pyIter (.ref it)) Q E s
abbrev TI:=St→Hp→(It→Hp→Prop)→Prop
def PIE (X:Cx) (pins:List (Addr×Obj)) (σ:St) (tg:Expr) (R:It→Hp→Prop) (itv:Value) (s2:Shared):Prop :=
 ∃ (it:Addr) (fp:List Addr) (tn:Nat→Heap→Prop) (J:It) (H':Hp),itv=.ref it∧Inv X pins σ H' s2∧Turn X.prog X.w X.K tg J fp it tn∧tn 0 s2.heap∧(∀ b∈fp,FpOk X pins H' b)∧R J H'
def PI (X:Cx) (tg iter:Expr) (wi:TI):Prop :=
 ∀ (pins:List (Addr×Obj)) (s:Shared) (σ:St) (H:Hp) (R:It→Hp→Prop),Inv X pins σ H s→wi σ H R →
  wpAny (model X.prog X.w) X.A (eval iter X.env) (fun v s1=>wpAny (model X.prog X.w) X.A (pyIter v) (PIE X pins σ tg R) X.xe s1) X.xe s
theorem bb4 {M:Model}{A:Around}{E:Value→Shared→Prop}{s:Shared}{tg:Expr}{it:Addr}{u:Value}{o:Obj}{n:String}{vs:Array Value}{Q:Unit→Shared→Prop}(ho:s.heap.get? it=some o) (hc:o.cls=.type n) (hd:o.data=.fields vs)
 (hn:["enumerate","zip","dict_itemiterator","dict_reverseitemiterator","odict_iterator","itertools.zip_longest","itertools.pairwise"].contains n=false) (hQ:Q () s):wpAny M A (letOwnedTupleGo tg (.ref it) u) Q E s:=by
 unfold letOwnedTupleGo
 cases tg <;> first
  | exact wpAny_pure hQ
  | (cases u <;> first
   | exact wpAny_pure hQ
   | (refine wB (wpAny_load ho ?_)
      rw [hc,hd]
      show wpAny M A (if (["enumerate","zip","dict_itemiterator","dict_reverseitemiterator","odict_iterator","itertools.zip_longest","itertools.pairwise"].contains n && vs[0]? == some (rawInt _))=true then _ else _) Q E s
      rw [if_neg (by intro h; rw [hn,Bool.false_and] at h; cases h)]
      exact wpAny_pure hQ))
def Itl (K:W.Frag) (a:Addr):It :=
 ⟨fun i H=>∃ xs x,SqL K H a xs∧xs[i]?=some x,fun i H x H'=>H'=H∧∀ xs,SqL K H a xs→xs[i]?=some x,fun i H=>∃ xs,SqL K H a xs∧xs.length≤i⟩
def Itt (K:W.Frag) (a:Addr):It :=
 ⟨fun i H=>∃ xs x,SqT K H a xs∧xs[i]?=some x,fun i H x H'=>H'=H∧∀ xs,SqT K H a xs→xs[i]?=some x,fun i H=>∃ xs,SqT K H a xs∧xs.length≤i⟩
def Itr (lo:Int) (n:Nat):It:=⟨fun i _=>i<n,fun i H x H'=>H'=H∧x=.int (lo+i),fun i _=>n≤i⟩
theorem bb5 {P:Program}{w:World}{K:W.Frag}{tg:Expr}(a it:Addr):Turn P w K tg (Itl K a) [it] it (fun i h=>h.IsListIter it a i) where
 mem:=by simp
 obj:=fun i h st b hb=>by
  have e:b=it:=by simpa using hb
  subst e
  obtain ⟨o,e,c,d⟩:=st
  exact ⟨o,e,fun v z=>by rw [d] at z; cases z⟩
 keep:=fun i h h' st k=>st.at fun o e=>k it (by simp) o e
 item:=by
  intro X hP hw hK hc i pins s σ H E I hf st hg
  subst hP hw hK
  obtain ⟨xs,x,hq,hx⟩:=hg
  obtain ⟨its,rv,p,hz⟩:=I.list hq
  obtain ⟨u,hu,ru⟩:=rv.get hx
  obtain ⟨f0,f1,f2,f3,f4,f5⟩:=hf it (by simp)
  refine wpAny_pyNext_list_item st p.isList (x:=u) (by simpa using hu) fun h' st' sb=>?_
  have I1:Inv X pins σ H { s with heap:=h' }:=I.turned (t':=s.toks) (fun b o hb e=>(sb.2 b hb).trans e) f0 f1 f3 f4 f5
  obtain ⟨o,e,c,d⟩:=id st'
  exact ⟨u,rfl,bb4 (s:={ s with heap:=h' }) e c d (by decide) ⟨x,H,I1,ru,⟨rfl,fun ys hy=>by rw [I.list_inj hy hq]; exact hx⟩,st',fun b hb=>(hf b hb).1⟩⟩
 done:=by
  intro X hP hw hK hc i pins s σ H E I hf st hg
  subst hP hw hK
  obtain ⟨xs,hq,hx⟩:=hg
  obtain ⟨its,rv,p,hz⟩:=I.list hq
  obtain ⟨f0,f1,f2,f3,f4,f5⟩:=hf it (by simp)
  have hl:=rv.length
  exact wpAny_pyNext_list_end (I.ok.hd hc) st p.isList (by simp; omega) fun h' eb=>⟨rfl,I.turned (t':=s.toks) (fun b o hb e=>eb b o hb e) f0 f1 f3 f4 f5⟩
 self:=fun _ _ _ _ _ st h=>wpAny_pyIter_listiter st h
theorem b70 {P:Program}{w:World}{K:W.Frag}{tg:Expr}(a it:Addr):Turn P w K tg (Itt K a) [it] it (fun i h=>h.IsTupleIter it a i) where
 mem:=by simp
 obj:=fun i h st b hb=>by
  have e:b=it:=by simpa using hb
  subst e
  obtain ⟨o,e,c,d⟩:=st
  exact ⟨o,e,fun v z=>by rw [d] at z; cases z⟩
 keep:=fun i h h' st k=>st.at fun o e=>k it (by simp) o e
 item:=by
  intro X hP hw hK hc i pins s σ H E I hf st hg
  subst hP hw hK
  obtain ⟨xs,x,hq,hx⟩:=hg
  obtain ⟨its,rv,p,hz⟩:=I.tuple hq
  obtain ⟨u,hu,ru⟩:=rv.get hx
  obtain ⟨f0,f1,f2,f3,f4,f5⟩:=hf it (by simp)
  refine wpAny_pyNext_tuple_item st (show s.heap.IsTuple a its.toArray from p) (x:=u) (by simpa using hu) fun h' st' sb=>?_
  have I1:Inv X pins σ H { s with heap:=h' }:=I.turned (t':=s.toks) (fun b o hb e=>(sb.2 b hb).trans e) f0 f1 f3 f4 f5
  obtain ⟨o,e,c,d⟩:=id st'
  exact ⟨u,rfl,bb4 (s:={ s with heap:=h' }) e c d (by decide) ⟨x,H,I1,ru,⟨rfl,fun ys hy=>by rw [I.tuple_inj hy hq]; exact hx⟩,st',fun b hb=>(hf b hb).1⟩⟩
 done:=by
  intro X hP hw hK hc i pins s σ H E I hf st hg
  subst hP hw hK
  obtain ⟨xs,hq,hx⟩:=hg
  obtain ⟨its,rv,p,hz⟩:=I.tuple hq
  obtain ⟨f0,f1,f2,f3,f4,f5⟩:=hf it (by simp)
  have hl:=rv.length
  exact wpAny_pyNext_tuple_end (I.ok.hd hc) st (show s.heap.IsTuple a its.toArray from p) (by simp; omega) fun h' eb=>⟨rfl,I.turned (t':=s.toks) (fun b o hb e=>eb b o hb e) f0 f1 f3 f4 f5⟩
 self:=fun _ _ _ _ _ st h=>wpAny_pyIter_tupleiter st h
theorem b71 {P:Program}{w:World}{K:W.Frag}{tg:Expr}(it:Addr) (lo:Int) (n:Nat):Turn P w K tg (Itr lo n) [it] it (fun i h=>IsRangeIter h it (lo+(i:Nat)*1) ((n:Int) - (i:Nat)) 1) where
 mem:=by simp
 obj:=fun i h st b hb=>by
  have e:b=it:=by simpa using hb
  subst e
  exact ⟨_,st,fun v z=>by
   have z':Data.fields _=Data.cell v:=z
   cases z'⟩
 keep:=fun i h h' st k=>k it (by simp) _ st
 item:=by
  intro X hP hw hK hc i pins s σ H E I hf st hg
  subst hP hw hK
  obtain ⟨f0,f1,f2,f3,f4,f5⟩:=hf it (by simp)
  have W:=Walks.range (prog:=X.prog) (w:=X.w) (I.ok.hd hc) it lo 1 n
  refine W.item i s _ _ hg st fun v h' tk hv st' kk=>?_
  obtain ⟨t,rfl⟩:=hv
  have I1:Inv X pins σ H { s with heap:=h',toks:=tk }:=I.turned (fun b o hb e=>kk b o (by simpa using hb) e) f0 f1 f3 f4 f5
  refine ⟨_,rfl,bb4 (s:={ s with heap:=h',toks:=tk }) (n:="range_iterator") st' rfl rfl (by decide) ⟨.int (lo+i),H,I1,⟨t,?_⟩,⟨rfl,rfl⟩,st',fun b hb=>(hf b hb).1⟩⟩
  rw [Int.mul_one]
 done:=by
  intro X hP hw hK hc i pins s σ H E I hf st hg
  subst hP hw hK
  obtain ⟨f0,f1,f2,f3,f4,f5⟩:=hf it (by simp)
  exact wpAny_pyNext_range_end (I.ok.hd hc) st (by have:n≤i:=hg; omega) fun h' eb=>⟨rfl,I.turned (t':=s.toks) (fun b o hb e=>eb b o hb e) f0 f1 f3 f4 f5⟩
 self:=fun _ _ _ _ _ st h=>wpAny_pyIter_rangeiter st h
section
variable {X:Cx}{tg:Expr}
def iList (K:W.Frag) (tl:TE):TI:=fun σ H R=>tl σ H fun x H1=>∃ a,x=.ref a∧(∃ xs,SqL K H1 a xs)∧R (Itl K a) H1
def iTup (K:W.Frag) (tl:TE):TI:=fun σ H R=>tl σ H fun x H1=>∃ a,x=.ref a∧(∃ xs,SqT K H1 a xs)∧R (Itt K a) H1
theorem bv2 {l:Expr}{tl:TE}(hl:PE X l tl):PI X tg l (iList X.K tl):=by
 intro pins s σ H R I h
 refine thn (hl pins s σ H _ I h) fun v s1 ⟨x,H1,I1,r1,q1⟩=>?_
 obtain ⟨a,e,⟨xs,hq⟩,q⟩:=q1
 subst e
 cases r1
 obtain ⟨its,rv,p,hz⟩:=I1.list hq
 refine wpAny_pyIter_list p.isList ?_
 refine ⟨s1.heap.objs.size,[s1.heap.objs.size],_,_,H1,rfl,I1.kept (t':=s1.toks) fun b o e=>gP _ e,bb5 a _,⟨_,Heap.get?_push_size _ rfl,rfl,rfl⟩,fun b hb=>?_,q⟩
 have e:b=s1.heap.objs.size:=by simpa using hb
 subst e
 exact I1.fpOk (Nat.le_refl _) (I1.hok.fresh (Nat.le_refl _))
theorem c54 {l:Expr}{tl:TE}(hl:PE X l tl):PI X tg l (iTup X.K tl):=by
 intro pins s σ H R I h
 refine thn (hl pins s σ H _ I h) fun v s1 ⟨x,H1,I1,r1,q1⟩=>?_
 obtain ⟨a,e,⟨xs,hq⟩,q⟩:=q1
 subst e
 cases r1
 obtain ⟨its,rv,p,hz⟩:=I1.tuple hq
 refine wpAny_pyIter_tuple (show s1.heap.IsTuple a its.toArray from p) ?_
 refine ⟨s1.heap.objs.size,[s1.heap.objs.size],_,_,H1,rfl,I1.kept (t':=s1.toks) fun b o e=>gP _ e,b70 a _,⟨_,Heap.get?_push_size _ rfl,rfl,rfl⟩,fun b hb=>?_,q⟩
 have e:b=s1.heap.objs.size:=by simpa using hb
 subst e
 exact I1.fpOk (Nat.le_refl _) (I1.hok.fresh (Nat.le_refl _))
theorem bl6 {pins:List (Addr×Obj)}{σ:St} {H:Hp}{s:Shared}{R:It→Hp→Prop}{E:Value→Shared→Prop}{lo hi:Int}{t u v:Tok}{tk:Nat}(I:Inv X pins σ H s) (h1:-(2 ^ 62)≤lo) (h2:lo<2 ^ 62) (h3:-(2 ^ 62)≤hi) (h4:hi<2 ^ 62)
 (q:R (Itr lo (hi - lo).toNat) H):wpAny (model X.prog X.w) X.A (pyIter (.ref s.heap.objs.size)) (PIE X pins σ tg R) E { s with heap:=s.heap.push { cls:=.type "range",data:=.fields #[.int lo t,.int hi u,.int 1 v] },toks:=tk }:=by
 refine wpAny_pyIter_range (IsRange.new ..) (small_one h1 h2 h3 h4) ?_
 have I1:Inv X pins σ H { s with heap:=s.heap.push { cls:=.type "range",data:=.fields #[.int lo t,.int hi u,.int 1 v] },toks:=tk }:=I.kept fun b o e=>gP _ e
 refine ⟨(s.heap.push { cls:=.type "range",data:=.fields #[.int lo t,.int hi u,.int 1 v] }).objs.size,[(s.heap.push { cls:=.type "range",data:=.fields #[.int lo t,.int hi u,.int 1 v] }).objs.size],_,_,H,rfl,
  I1.kept (t':=tk) fun b o e=>gP _ e,b71 _ lo (hi - lo).toNat,?_,fun b hb=>?_,q⟩
 · have e1:lo+((0:Nat):Int)*1=lo:=by simp
   have e2:(((hi - lo).toNat:Nat):Int) - ((0:Nat):Int)=Builtin.Range.rangeSize lo hi 1:=by rw [rangeSize_one]; split <;> omega
   show IsRangeIter _ _ (lo+((0:Nat):Int)*1) ((((hi - lo).toNat:Nat):Int) - ((0:Nat):Int)) 1
   rw [e1,e2]
   exact Heap.get?_push_size _ rfl
 · have e:b=(s.heap.push { cls:=.type "range",data:=.fields #[.int lo t,.int hi u,.int 1 v] }).objs.size:=by simpa using hb
   subst e
   exact I1.fpOk (Nat.le_refl _) (I1.hok.fresh (Nat.le_refl _))
def c55 (ta:TA):TI:=fun σ H R=>ta σ H fun vs H1=>∃ j:Int,vs=[.int j]∧-(2 ^ 62)≤j∧j<2 ^ 62∧R (Itr 0 j.toNat) H1
theorem bb6 {a:Expr}{ta:TA}{p pos:Pos}(hg:Gl X "range") (hm:X.mg "range"=none) (ha:PA X [a] ta) (hs:starEach [a] X.env=[(false,eval a X.env)]:=by rfl):PI X tg (.Call (.Name "range" p) [a] [] pos) (c55 ta):=by
 intro pins s σ H R I h
 refine Call_ (al3 I hg hm boot_range (PyProof.Rows.callWith_type1 (thn (ha pos pins s σ H _ I h) fun us s1 ⟨vs,H1,I1,r1,q1⟩=>?_) hs rfl))
 obtain ⟨j,e,q1,q2,q⟩:=q1
 subst e
 cases r1 with
 | cons r rr =>
   cases rr
   obtain ⟨t,rfl⟩:=r
   exact call_range_1 (bl6 I1 (by omega) (by omega) q1 q2 (by simpa using q))
def tFor (wi:TI) (g:TG) (tb:TS):TS:=fun D σ H=>wi σ H fun J H1=>∃ W:Nat→Nat→St→Hp→Prop,(∃ m,W 0 m σ H1)∧∀ i m σ H,W i m σ H →
 (J.stop i H∧D.nx σ H)∨(J.go i H∧∃ N:St→Hp→Prop,(∀ σ' H',N σ' H'→∃ m',m'<m∧W (i+1) m' σ' H')∧∀ x H',J.yld i H x H'→g x σ H' fun σ2 H2=>tb { D with nx:=N,ct:=N,bk:=D.nx } σ2 H2)
def pinsAt (fp:List Addr) (h:Heap):List (Addr×Obj):=fp.filterMap fun b=>(h.get? b).map fun o=>(b,o)
theorem ah6 {fp:List Addr}{h:Heap}{b:Addr}{o:Obj}(hb:b∈fp) (e:h.get? b=some o):(b,o)∈pinsAt fp h:=List.mem_filterMap.mpr ⟨b,hb,by rw [e]; rfl⟩
theorem bb7 {fp:List Addr}{h:Heap}{p:Addr×Obj}(hp:p∈pinsAt fp h):p.1∈fp∧h.get? p.1=some p.2:=by
 obtain ⟨b,hb,e⟩:=List.mem_filterMap.mp hp
 cases q:h.get? b with
 | none=>rw [q] at e; cases e
 | some o =>
   rw [q] at e
   have e':(b,o)=p:=Option.some.inj e
   subst e'
   exact ⟨hb,q⟩
theorem Inv.pinned {pins:List (Addr×Obj)}{σ:St} {H:Hp}{s:Shared}{fp:List Addr}(I:Inv X pins σ H s) (hf:∀ b∈fp,FpOk X pins H b) (ho:∀ b∈fp,∃ o,s.heap.get? b=some o∧∀ v,o.data≠.cell v):Inv X (pins++pinsAt fp s.heap) σ H s :=
 I.pins_of fun p hp=>(gA hp).elim (fun z=>I.pin p (List.mem_append_right _ z)) fun z=>by
  obtain ⟨hb,e⟩:=bb7 z
  obtain ⟨f0,f1,f2,_⟩:=hf p.1 hb
  obtain ⟨o,e',d⟩:=ho p.1 hb
  rw [e] at e'; cases e'
  exact ⟨e,f0,f1,f2,d⟩
theorem Inv.unpinned {pins pl:List (Addr×Obj)}{σ:St} {H:Hp}{s:Shared}(I:Inv X (pins++pl) σ H s):Inv X pins σ H s:=I.pins_of fun p hp=>I.pin p (List.mem_append_right _ (List.mem_append_left _ hp))
theorem ac2 {iter:Expr}{body:List Stmt}{wi:TI}{g:TG}{tb:TS}{pos:Pos}(hp:PassesOwn (model X.prog X.w) X.A X.env X.xe) (hc:X.calm=true) (hi:PI X tg iter wi) (hg:PG X tg g) (hb:PSs X body tb)
 (hs:∀ x,foldedSetIterable iter X.env x=pure x:=by intro _; rfl):PS X (.For tg iter body [] pos) (tFor wi g tb):=by
 intro pins s σ H D I h
 refine wpAny_For (thn (hi pins s σ H _ I h) fun v s1 h1=>thn h1 fun itv s2 h2=>?_) hs
 obtain ⟨it,fp,tn,J,H2,e,I2,T,st2,f2,W,⟨m0,w0⟩,turn⟩:=h2
 subst e
 have stat:∀ {H':Hp},(∀ b∈fp,H' b=none)→∀ b∈fp,FpOk X pins H' b:=fun hn b hb=>⟨hn b hb,(f2 b hb).2⟩
 refine codeAny_forLoop_any (fun n s'=>∃ i σ' H',Inv X pins σ' H' s'∧tn i s'.heap∧(∀ b∈fp,H' b=none)∧W i n σ' H') ?_ m0 ⟨0,σ,H2,I2,st2,fun b hb=>(f2 b hb).1,w0⟩
 rintro n s3 ⟨i,σ3,H3,I3,st3,fr3,w3⟩
 rcases turn i n σ3 H3 w3 with ⟨stop,qn⟩ | ⟨go,N,hN,step⟩
 · refine wpAny_passesOwn hp (thn (T.done X rfl rfl rfl hc i pins s3 σ3 H3 X.xe I3 (stat fr3) st3 stop) fun r s4 ⟨hr,I4⟩=>?_)
   subst hr
   exact wpAny_execs_nil ⟨σ3,H3,I4,qn⟩
 · refine wpAny_passesOwn hp (thn (T.item X rfl rfl rfl hc i pins s3 σ3 H3 X.xe I3 (stat fr3) st3 go) fun r s4 ⟨u,hr,h4⟩=>?_)
   subst hr
   refine wpAny_passesOwn hp (thn h4 fun _ s5 ⟨x,H5,I5,r5,y5,st5,fr5⟩=>?_)
   have I5':=I5.pinned (stat fr5) (T.obj _ _ st5)
   refine wpAny_passesOwn hp (thn (hg _ s5 σ3 H5 x u _ I5' r5 (step x H5 y5)) fun _ s6 ⟨σ6,H6,I6,q6⟩=>?_)
   refine wpAny_passesOwn hp (thn (hb _ s6 σ6 H6 _ I6 q6) fun f s7 q7=>?_)
   have again:∀ {σ7:St} {H7:Hp},Inv X (pins++pinsAt fp s5.heap) σ7 H7 s7→N σ7 H7→∃ m,m<n∧∃ i σ' H',Inv X pins σ' H' s7∧tn i s7.heap∧(∀ b∈fp,H' b=none)∧W i m σ' H':=fun {σ7 H7} I7 n7=>by
    obtain ⟨m',hm,w7⟩:=hN σ7 H7 n7
    refine ⟨m',hm,i+1,σ7,H7,I7.unpinned,T.keep _ _ _ st5 fun b hb o e=>(I7.pin (b,o) (List.mem_append_right _ (List.mem_append_right _ (ah6 hb e)))).1,fun b hb=>?_,w7⟩
    obtain ⟨o,e,d⟩:=T.obj _ _ st5 b hb
    exact (I7.pin (b,o) (List.mem_append_right _ (List.mem_append_right _ (ah6 hb e)))).2.1
   cases f with
   | next=>obtain ⟨σ7,H7,I7,n7⟩:=q7; exact again I7 n7
   | cont=>obtain ⟨σ7,H7,I7,n7⟩:=q7; exact again I7 n7
   | brk=>obtain ⟨σ7,H7,I7,q7⟩:=q7; exact ⟨σ7,H7,I7.unpinned,q7⟩
   | ret v=>obtain ⟨x7,σ7,H7,I7,r7,q7⟩:=q7; exact ⟨x7,σ7,H7,I7.unpinned,r7,q7⟩
end
theorem ac9 {K:W.Frag}{a:Addr}{xs:List V}{g:TG}{tb:TS}{D:Ends}{σ:St} {H:Hp}(Pv:Nat→St→Hp→Prop) (h0:Pv 0 σ H) (hl:∀ i σ H,i≤xs.length→Pv i σ H→SqL K H a xs)
 (hs:∀ i x σ H,xs[i]?=some x→Pv i σ H→g x σ H fun σ2 H2=>tb { D with nx:=Pv (i+1),ct:=Pv (i+1),bk:=D.nx } σ2 H2) (hd:∀ σ H,Pv xs.length σ H→D.nx σ H) :
 ∃ W:Nat→Nat→St→Hp→Prop,(∃ m,W 0 m σ H)∧∀ i m σ H,W i m σ H →
  ((Itl K a).stop i H∧D.nx σ H)∨((Itl K a).go i H∧∃ N:St→Hp→Prop,(∀ σ' H',N σ' H'→∃ m',m'<m∧W (i+1) m' σ' H')∧∀ x H',(Itl K a).yld i H x H'→g x σ H' fun σ2 H2=>tb { D with nx:=N,ct:=N,bk:=D.nx } σ2 H2):=by
 refine ⟨fun i m σ H=>m=xs.length - i∧i≤xs.length∧Pv i σ H,⟨xs.length,by simp,Nat.zero_le _,h0⟩,?_⟩
 rintro i m σ H ⟨rfl,hi,p⟩
 have q:=hl i σ H hi p
 by_cases hlt:i<xs.length
 · refine .inr ⟨⟨xs,xs[i],q,by simp [hlt]⟩,Pv (i+1),fun σ' H' p'=>⟨xs.length - (i+1),by omega,rfl,hlt,p'⟩,fun x H' y=>?_⟩
   obtain ⟨e,y⟩:=y
   subst e
   exact hs i x σ _ (y xs q) p
 · have e:i=xs.length:=by omega
   subst e
   exact .inl ⟨⟨xs,q,Nat.le_refl _⟩,hd σ H p⟩
theorem bv3 {K:W.Frag}{a:Addr}{xs:List V}{g:TG}{tb:TS}{D:Ends}{σ:St} {H:Hp}(Pv:Nat→St→Hp→Prop) (h0:Pv 0 σ H) (hl:∀ i σ H,i≤xs.length→Pv i σ H→SqT K H a xs)
 (hs:∀ i x σ H,xs[i]?=some x→Pv i σ H→g x σ H fun σ2 H2=>tb { D with nx:=Pv (i+1),ct:=Pv (i+1),bk:=D.nx } σ2 H2) (hd:∀ σ H,Pv xs.length σ H→D.nx σ H) :
 ∃ W:Nat→Nat→St→Hp→Prop,(∃ m,W 0 m σ H)∧∀ i m σ H,W i m σ H →
  ((Itt K a).stop i H∧D.nx σ H)∨((Itt K a).go i H∧∃ N:St→Hp→Prop,(∀ σ' H',N σ' H'→∃ m',m'<m∧W (i+1) m' σ' H')∧∀ x H',(Itt K a).yld i H x H'→g x σ H' fun σ2 H2=>tb { D with nx:=N,ct:=N,bk:=D.nx } σ2 H2):=by
 refine ⟨fun i m σ H=>m=xs.length - i∧i≤xs.length∧Pv i σ H,⟨xs.length,by simp,Nat.zero_le _,h0⟩,?_⟩
 rintro i m σ H ⟨rfl,hi,p⟩
 have q:=hl i σ H hi p
 by_cases hlt:i<xs.length
 · refine .inr ⟨⟨xs,xs[i],q,by simp [hlt]⟩,Pv (i+1),fun σ' H' p'=>⟨xs.length - (i+1),by omega,rfl,hlt,p'⟩,fun x H' y=>?_⟩
   obtain ⟨e,y⟩:=y
   subst e
   exact hs i x σ _ (y xs q) p
 · have e:i=xs.length:=by omega
   subst e
   exact .inl ⟨⟨xs,q,Nat.le_refl _⟩,hd σ H p⟩
theorem bb8 {lo:Int}{n:Nat}{g:TG}{tb:TS}{D:Ends}{σ:St} {H:Hp}(Pv:Nat→St→Hp→Prop) (h0:Pv 0 σ H)
 (hs:∀ i σ H,i<n→Pv i σ H→g (.int (lo+i)) σ H fun σ2 H2=>tb { D with nx:=Pv (i+1),ct:=Pv (i+1),bk:=D.nx } σ2 H2) (hd:∀ σ H,Pv n σ H→D.nx σ H) :
 ∃ W:Nat→Nat→St→Hp→Prop,(∃ m,W 0 m σ H)∧∀ i m σ H,W i m σ H →
  ((Itr lo n).stop i H∧D.nx σ H)∨((Itr lo n).go i H∧∃ N:St→Hp→Prop,(∀ σ' H',N σ' H'→∃ m',m'<m∧W (i+1) m' σ' H')∧∀ x H',(Itr lo n).yld i H x H'→g x σ H' fun σ2 H2=>tb { D with nx:=N,ct:=N,bk:=D.nx } σ2 H2):=by
 refine ⟨fun i m σ H=>m=n - i∧i≤n∧Pv i σ H,⟨n,by simp,Nat.zero_le _,h0⟩,?_⟩
 rintro i m σ H ⟨rfl,hi,p⟩
 by_cases hlt:i<n
 · refine .inr ⟨hlt,Pv (i+1),fun σ' H' p'=>⟨n - (i+1),by omega,rfl,hlt,p'⟩,fun x H' y=>?_⟩
   obtain ⟨e,y⟩:=y
   subst e y
   exact hs i σ _ hlt p
 · have e:i=n:=by omega
   subst e
   exact .inl ⟨Nat.le_refl _,hd σ H p⟩
abbrev R2:=V→V→Hp→VK→Prop
def OpR (X:Cx) (f:Value→Value→Sem Value) (r:R2):Prop :=
 ∀ (pins:List (Addr×Obj)) (s:Shared) (σ:St) (H:Hp) (x y:V) (v u:Value) (Q:VK),Inv X pins σ H s→RelV x v→RelV y u→r x y H Q →
  wpAny (model X.prog X.w) X.A (f v u) (EP X pins σ Q) X.xe s
def UnR (X:Cx) (f:Value→Sem Value) (r:V→Hp→VK→Prop):Prop :=
 ∀ (pins:List (Addr×Obj)) (s:Shared) (σ:St) (H:Hp) (x:V) (v:Value) (Q:VK),Inv X pins σ H s→RelV x v→r x H Q →
  wpAny (model X.prog X.w) X.A (f v) (EP X pins σ Q) X.xe s
def CallR (X:Cx) (f:Value) (r:List V→Hp→VK→Prop):Prop :=
 ∀ (pins:List (Addr×Obj)) (s:Shared) (σ:St) (H:Hp) (xs:List V) (us:List Value) (Q:VK),Inv X pins σ H s→Vals xs us→r xs H Q →
  wpAny (model X.prog X.w) X.A (call f us) (EP X pins σ Q) X.xe s
def TruR (X:Cx) (r:V→Hp→(Bool→Hp→Prop)→Prop):Prop :=
 ∀ (pins:List (Addr×Obj)) (s:Shared) (σ:St) (H:Hp) (x:V) (v:Value) (Q:Bool→Hp→Prop),Inv X pins σ H s→RelV x v→r x H Q →
  wpAny (model X.prog X.w) X.A (truthy v) (TP X pins σ Q) X.xe s
def tOp (r:R2) (ta tb:TE):TE:=fun σ H Q=>ta σ H fun x H1=>tb σ H1 fun y H2=>r x y H2 Q
def tUn (r:V→Hp→VK→Prop) (ta:TE):TE:=fun σ H Q=>ta σ H fun x H1=>r x H1 Q
def rI (C:Int→Int→Prop) (g:Int→Int→V):R2:=fun x y H Q=>∃ i j,x=.int i∧y=.int j∧C i j∧Q (g i j) H
def rI0 (g:Int→Int→V):R2:=fun x y H Q=>∃ i j,x=.int i∧y=.int j∧Q (g i j) H
def rU (g:Int→V):V→Hp→VK→Prop:=fun x H Q=>∃ i,x=.int i∧Q (g i) H
section
variable {X:Cx}{a b c:Expr}{ta tb tc:TE}{pos:Pos}
theorem binT (ha:PE X a ta) (hb:PE X b tb) {pins:List (Addr×Obj)}{s:Shared}{σ:St} {H:Hp}{R:V→V→Hp→Prop}(I:Inv X pins σ H s)
 (h:ta σ H fun x H1=>tb σ H1 fun y H2=>R x y H2) {Q:Value→Shared→Prop}{f:Value→Value→Sem Value}
 (hf:∀ v u s2 x y H2,Inv X pins σ H2 s2→RelV x v→RelV y u→R x y H2→wpAny (model X.prog X.w) X.A (f v u) Q X.xe s2) :
 wpAny (model X.prog X.w) X.A (eval a X.env) (fun v s₁=>wpAny (model X.prog X.w) X.A (eval b X.env) (fun u s₂=>wpAny (model X.prog X.w) X.A (f v u) Q X.xe s₂) X.xe s₁) X.xe s:=by
 refine thn (ha pins s σ H _ I h) fun v s1 ⟨x,H1,I1,r1,q1⟩=>?_
 refine thn (hb pins s1 σ H1 _ I1 q1) fun u s2 ⟨y,H2,I2,r2,q2⟩=>?_
 exact hf v u s2 x y H2 I2 r1 r2 q2
theorem a89 {op:Operator}{r:R2}(ho:OpR X (binaryOp op) r) (ha:PE X a ta) (hb:PE X b tb):PE X (.BinOp a op b pos) (tOp r ta tb):=by
 intro pins s σ H Q I h
 exact wpAny_BinOp (binT ha hb I h fun v u s2 x y H2 I2 rx ry q=>ho pins s2 σ H2 x y v u Q I2 rx ry q)
theorem ce8 {op:UnaryOp}{r:V→Hp→VK→Prop}(ho:UnR X (unaryOp op) r) (ha:PE X a ta):PE X (.UnaryOp op a pos) (tUn r ta):=by
 intro pins s σ H Q I h
 exact UnaryOp_ (thn (ha pins s σ H _ I h) fun v s1 ⟨x,H1,I1,r1,q1⟩=>ho pins s1 σ H1 x v Q I1 r1 q1)
theorem opI {f:Value→Value→Sem Value}{C:Int→Int→Prop}{g:Int→Int→Int}
 (rule:∀ (i j:Int) (t u:Tok) (s:Shared) (Q:Value→Shared→Prop) (E:Value→Shared→Prop),C i j→Q (.int (g i j) s.toks) { s with toks:=s.toks+1 }→wpAny (model X.prog X.w) X.A (f (.int i t) (.int j u)) Q E s) :
 OpR X f (rI C fun i j=>.int (g i j)):=by
 intro pins s σ H x y v u Q I rx ry h
 obtain ⟨i,j,rfl,rfl,hc,q⟩:=h
 obtain ⟨t,rfl⟩:=rx
 obtain ⟨t',rfl⟩:=ry
 exact rule i j t t' s _ _ hc ⟨.int (g i j),H,I.tok _,⟨_,rfl⟩,q⟩
theorem opI0 {f:Value→Value→Sem Value}{g:Int→Int→Int}
 (rule:∀ (i j:Int) (t u:Tok) (s:Shared) (Q:Value→Shared→Prop) (E:Value→Shared→Prop),Q (.int (g i j) s.toks) { s with toks:=s.toks+1 }→wpAny (model X.prog X.w) X.A (f (.int i t) (.int j u)) Q E s) :
 OpR X f (rI0 fun i j=>.int (g i j)):=by
 intro pins s σ H x y v u Q I rx ry h
 obtain ⟨i,j,rfl,rfl,q⟩:=h
 obtain ⟨t,rfl⟩:=rx
 obtain ⟨t',rfl⟩:=ry
 exact rule i j t t' s _ _ ⟨.int (g i j),H,I.tok _,⟨_,rfl⟩,q⟩
theorem opB0 {f:Value→Value→Sem Value}{g:Int→Int→Bool}
 (rule:∀ (i j:Int) (t u:Tok) (s:Shared) (Q:Value→Shared→Prop) (E:Value→Shared→Prop),Q (.bool (g i j)) s→wpAny (model X.prog X.w) X.A (f (.int i t) (.int j u)) Q E s) :
 OpR X f (rI0 fun i j=>.bl (g i j)):=by
 intro pins s σ H x y v u Q I rx ry h
 obtain ⟨i,j,rfl,rfl,q⟩:=h
 obtain ⟨t,rfl⟩:=rx
 obtain ⟨t',rfl⟩:=ry
 exact rule i j t t' s _ _ ⟨.bl (g i j),H,I,rfl,q⟩
def CDiv (i j:Int):Prop:=0<j∧j<1073741824
def CMul (i j:Int):Prop:=(-(2 ^ 64)<i∧i<2 ^ 64)∨(-(2 ^ 64)<j∧j<2 ^ 64)
theorem CMul.ok {i j:Int}(h:CMul i j):IntMulOk i j:=by
 rcases h with ⟨h1,h2⟩ | ⟨h1,h2⟩
 · exact .of_left (intBits_le_64 h1 h2)
 · exact .of_right (intBits_le_64 h1 h2)
theorem c56:OpR X (binaryOp .Add) (rI0 fun i j=>.int (i+j)):=opI0 fun _ _ _ _ _ _ _ q=>add_int q
theorem c57:OpR X (binaryOp .Sub) (rI0 fun i j=>.int (i - j)):=opI0 fun _ _ _ _ _ _ _ q=>sub_int q
theorem ar2:OpR X (binaryOp .FloorDiv) (rI CDiv fun i j=>.int (i / j)):=opI fun i j _ _ _ _ _ hc q=>by
 have h1:(0:Int)<j:=hc.1
 have h2:j<1073741824:=hc.2
 exact floordiv_int (by omega) (by rw [Int.fdiv_eq_ediv_of_nonneg i (by omega)]; exact q) (.inl (PyProof.noPylong_small (by omega)))
theorem ai9:OpR X (binaryOp .Mod) (rI (fun _ j=>0<j) fun i j=>.int (i % j)):=opI fun i j _ _ _ _ _ hc q=>by
 have h1:(0:Int)<j:=hc
 exact mod_int' (by omega) (by rw [Int.fmod_eq_emod_of_nonneg i (by omega)]; exact q)
theorem unI {f:Value→Sem Value}{g:Int→Int}
 (rule:∀ (i:Int) (t:Tok) (s:Shared) (Q:Value→Shared→Prop) (E:Value→Shared→Prop),Q (.int (g i) s.toks) { s with toks:=s.toks+1 }→wpAny (model X.prog X.w) X.A (f (.int i t)) Q E s) :
 UnR X f (rU fun i=>.int (g i)):=by
 intro pins s σ H x v Q I rx h
 obtain ⟨i,rfl,q⟩:=h
 obtain ⟨t,rfl⟩:=rx
 exact rule i t s _ _ ⟨.int (g i),H,I.tok _,⟨_,rfl⟩,q⟩
theorem c58:UnR X (unaryOp .USub) (rU fun i=>.int (-i)):=unI fun _ _ _ _ _ q=>neg_int q
end
def scal:V→V→Bool
 | .non,.non=>true | .non,.int _=>true | .int _,.non=>true | .non,.bl _=>true | .bl _,.non=>true | .non,.str _=>true | .str _,.non=>true
 | .int _,.int _=>true | .bl _,.bl _=>true | .str _,.str _=>true | .byt _,.byt _=>true
 | .int _,.str _=>true | .str _,.int _=>true | .bl _,.str _=>true | .str _,.bl _=>true
 | _,_=>false
def rEq:R2:=fun x y H Q=>scal x y=true∧Q (.bl (decide (x=y))) H
def rNe:R2:=fun x y H Q=>scal x y=true∧Q (.bl (!decide (x=y))) H
theorem bb9 {i j:Int}:decide (V.int i=V.int j)=(i == j):=by
 rw [Bool.eq_iff_iff]
 simp
theorem bt5 {i j:Bool}:decide (V.bl i=V.bl j)=(i == j):=by
 rw [Bool.eq_iff_iff]
 simp
theorem bc0 {i j:Str}:decide (V.str i=V.str j)=(i == j):=by
 rw [Bool.eq_iff_iff]
 simp
theorem bc1 {i j:Array UInt8}:decide (V.byt i=V.byt j)=(i.toList == j.toList):=by
 rw [Bool.eq_iff_iff]
 cases i
 cases j
 simp
section
variable {X:Cx}{a b c:Expr}{ta tb tc:TE}{pos:Pos}
theorem a82 {pins:List (Addr×Obj)}{σ:St} {H:Hp}{s:Shared}{Q:VK}{k k':Bool}(I:Inv X pins σ H s) (q:Q (.bl k) H) (e:k=k'):EP X pins σ Q (.bool k') s:=by
 subst e
 exact ⟨.bl k,H,I,rfl,q⟩
theorem at9:OpR X (compareOp .Eq) rEq:=by
 intro pins s σ H x y v u Q I rx ry h
 obtain ⟨hs,q⟩:=h
 cases x with
 | non =>
   cases rx
   cases y with
   | non=>cases ry; exact PySem.EqNone.eq_none_none (a82 I q (by simp))
   | bl j=>cases ry; exact PySem.EqNone.eq_none_bool (a82 I q (by simp))
   | int j=>obtain ⟨t',rfl⟩:=ry; exact PySem.EqNone.eq_none_int (a82 I q (by simp))
   | str j=>obtain ⟨t',rfl⟩:=ry; exact PySem.EqNone.eq_none_str (a82 I q (by simp))
   | _=>exact absurd (show false=true from hs) Bool.false_ne_true
 | bl i =>
   cases rx
   cases y with
   | non=>cases ry; exact PySem.EqNone.eq_bool_none (a82 I q (by simp))
   | bl j=>cases ry; exact eq_bool (a82 I q bt5)
   | str j=>obtain ⟨t',rfl⟩:=ry; exact PySem.EqMixed.eq_bool_str (a82 I q (by simp))
   | _=>exact absurd (show false=true from hs) Bool.false_ne_true
 | int i =>
   obtain ⟨t,rfl⟩:=rx
   cases y with
   | non=>cases ry; exact PySem.EqNone.eq_int_none (a82 I q (by simp))
   | int j=>obtain ⟨t',rfl⟩:=ry; exact eq_int (a82 I q bb9)
   | str j=>obtain ⟨t',rfl⟩:=ry; exact PySem.EqMixed.eq_int_str (a82 I q (by simp))
   | _=>exact absurd (show false=true from hs) Bool.false_ne_true
 | str i =>
   obtain ⟨t,rfl⟩:=rx
   cases y with
   | non=>cases ry; exact PySem.EqNone.eq_str_none (a82 I q (by simp))
   | bl j=>cases ry; exact PySem.EqMixed.eq_str_bool (a82 I q (by simp))
   | int j=>obtain ⟨t',rfl⟩:=ry; exact PySem.EqMixed.eq_str_int (a82 I q (by simp))
   | str j=>obtain ⟨t',rfl⟩:=ry; exact eq_str (a82 I q bc0)
   | _=>exact absurd (show false=true from hs) Bool.false_ne_true
 | byt i =>
   obtain ⟨t,rfl⟩:=rx
   cases y with
   | byt j=>obtain ⟨t',rfl⟩:=ry; exact W.eq_bytes (a82 I q bc1)
   | _=>exact absurd (show false=true from hs) Bool.false_ne_true
 | _=>cases y <;> exact absurd (show false=true from hs) Bool.false_ne_true
theorem bl7:OpR X (compareOp .NotEq) rNe:=by
 intro pins s σ H x y v u Q I rx ry h
 obtain ⟨hs,q⟩:=h
 cases x with
 | non =>
   cases rx
   cases y with
   | non=>cases ry; exact PySem.EqNone.ne_none_none (a82 I q (by simp))
   | bl j=>cases ry; exact PySem.EqNone.ne_none_bool (a82 I q (by simp))
   | int j=>obtain ⟨t',rfl⟩:=ry; exact PySem.EqNone.ne_none_int (a82 I q (by simp))
   | str j=>obtain ⟨t',rfl⟩:=ry; exact PySem.EqNone.ne_none_str (a82 I q (by simp))
   | _=>exact absurd (show false=true from hs) Bool.false_ne_true
 | bl i =>
   cases rx
   cases y with
   | non=>cases ry; exact PySem.EqNone.ne_bool_none (a82 I q (by simp))
   | bl j=>cases ry; exact ne_bool (a82 I q (congrArg not bt5))
   | str j=>obtain ⟨t',rfl⟩:=ry; exact PySem.EqMixed.ne_bool_str (a82 I q (by simp))
   | _=>exact absurd (show false=true from hs) Bool.false_ne_true
 | int i =>
   obtain ⟨t,rfl⟩:=rx
   cases y with
   | non=>cases ry; exact PySem.EqNone.ne_int_none (a82 I q (by simp))
   | int j=>obtain ⟨t',rfl⟩:=ry; exact ne_int (a82 I q (congrArg not bb9))
   | str j=>obtain ⟨t',rfl⟩:=ry; exact PySem.EqMixed.ne_int_str (a82 I q (by simp))
   | _=>exact absurd (show false=true from hs) Bool.false_ne_true
 | str i =>
   obtain ⟨t,rfl⟩:=rx
   cases y with
   | non=>cases ry; exact PySem.EqNone.ne_str_none (a82 I q (by simp))
   | bl j=>cases ry; exact PySem.EqMixed.ne_str_bool (a82 I q (by simp))
   | int j=>obtain ⟨t',rfl⟩:=ry; exact PySem.EqMixed.ne_str_int (a82 I q (by simp))
   | str j=>obtain ⟨t',rfl⟩:=ry; exact ne_str (a82 I q (congrArg not bc0))
   | _=>exact absurd (show false=true from hs) Bool.false_ne_true
 | byt i =>
   obtain ⟨t,rfl⟩:=rx
   cases y with
   | byt j=>obtain ⟨t',rfl⟩:=ry; exact W.ne_bytes (a82 I q (congrArg not bc1))
   | _=>exact absurd (show false=true from hs) Bool.false_ne_true
 | _=>cases y <;> exact absurd (show false=true from hs) Bool.false_ne_true
theorem bv4:OpR X (compareOp .Lt) (rI0 fun i j=>.bl (decide (i<j))):=opB0 fun _ _ _ _ _ _ _ q=>lt_int q
theorem c59:OpR X (compareOp .LtE) (rI0 fun i j=>.bl (decide (i≤j))):=opB0 fun _ _ _ _ _ _ _ q=>le_int q
theorem ce9:OpR X (compareOp .GtE) (rI0 fun i j=>.bl (decide (j≤i))):=opB0 fun _ _ _ _ _ _ _ q=>ge_int q
theorem c60:OpR X (compareOp .Is) (fun x y H Q=>y=.non∧Q (.bl (decide (x=.non))) H):=by
 intro pins s σ H x y v u Q I rx ry h
 obtain ⟨rfl,q⟩:=h
 cases ry
 refine is_none_gen (a82 I q ?_)
 cases x <;> first
  | (cases rx; rfl)
  | (obtain ⟨t,rfl⟩:=rx; rfl)
theorem bv5:OpR X (compareOp .IsNot) (fun x y H Q=>y=.non∧Q (.bl (!decide (x=.non))) H):=by
 intro pins s σ H x y v u Q I rx ry h
 obtain ⟨rfl,q⟩:=h
 cases ry
 refine isnot_none_gen (a82 I q ?_)
 cases x <;> first
  | (cases rx; rfl)
  | (obtain ⟨t,rfl⟩:=rx; rfl)
theorem nomark (b:Expr) {op:CmpOp}(h:op≠.In:=by decide) (h2:op≠.NotIn:=by decide):behindInMarks op b=false:=by
 have e1:(op == CmpOp.In)=false:=by cases op <;> first | rfl | exact absurd rfl h
 have e2:(op == CmpOp.NotIn)=false:=by cases op <;> first | rfl | exact absurd rfl h2
 cases b <;> simp [behindInMarks,e1,e2]
theorem bc2 {op:CmpOp}{r:R2}(ho:OpR X (compareOp op) r) (ha:PE X a ta) (hb:PE X b tb) (hm:behindInMarks op b=false):PE X (.Compare a [op] [b] pos) (tOp r ta tb):=by
 intro pins s σ H Q I h
 exact wpAny_Compare1 (binT ha hb I h fun v u s2 x y H2 I2 rx ry q=>ho pins s2 σ H2 x y v u Q I2 rx ry q) hm
def tTest (t:TE):TT:=fun σ H Q=>t σ H fun x H'=>∃ k,x=.bl k∧Q k H'
theorem a62 {op:CmpOp}{r:R2}(ho:OpR X (compareOp op) r) (ha:PE X a ta) (hb:PE X b tb) (hm:behindInMarks op b=false):PT X (.Compare a [op] [b] pos) (tTest (tOp r ta tb)):=by
 intro pins s σ H Q I h
 refine wpAny_isTrue_Compare1 (thn (ha pins s σ H _ I h) fun v s1 ⟨x,H1,I1,r1,q1⟩=>thn (hb pins s1 σ H1 _ I1 q1) fun u s2 ⟨y,H2,I2,r2,q2⟩ =>
  thn (ho pins s2 σ H2 x y v u _ I2 r1 r2 q2) fun c s3 ⟨z,H3,I3,r3,k,e,q3⟩=>?_) hm
 subst e
 cases r3
 exact wpAny_truthy_bool ⟨H3,I3,q3⟩
def TruV (K:W.Frag) (x:V) (H:Hp) (k:Bool):Prop :=
 match x with
 | .non=>k=false
 | .bl b=>k=b
 | .int i=>k=(i != 0)
 | .str y=>y.length≤sizeLine∧k=((y.length:Int) != 0)
 | .byt y=>y.size≤sizeLine∧k=((y.size:Int) != 0)
 | .ref p=>(∃ xs,SqL K H p xs∧k=!xs.isEmpty)∨(∃ xs,SqT K H p xs∧k=!xs.isEmpty)∨∃ kvs,H p=some (.dK kvs)∧k=!kvs.isEmpty
 | _=>False
theorem b72 {κ:Type} {kvs:List (κ×V)}{vs:List (κ×Value)}(r:KV kvs vs):(!vs.isEmpty)=!kvs.isEmpty:=by
 cases r <;> rfl
theorem ap5 {xs:List V}{its:List Value}(r:Vals xs its):(!its.toArray.isEmpty)=!xs.isEmpty:=by
 cases r <;> simp
theorem au0:(sizeLine:Nat)<2 ^ 63:=by rw [sizeLine_eq]; decide
theorem c61:TruR X (fun x H Q=>∃ k,TruV X.K x H k∧Q k H):=by
 intro pins s σ H x v Q I rx h
 obtain ⟨k,e,q⟩:=h
 have hl:=au0
 have hs:sizeLine=16777216:=sizeLine_eq
 cases x with
 | non =>
   cases rx
   have e':k=false:=e
   subst e'
   exact truthy_none ⟨H,I,q⟩
 | bl b =>
   cases rx
   have e':k=b:=e
   subst e'
   exact wpAny_truthy_bool ⟨H,I,q⟩
 | int i =>
   obtain ⟨t,rfl⟩:=rx
   have e':k=(i != 0):=e
   subst e'
   exact PySem.P.truthy_int ⟨H,I,q⟩
 | str y =>
   obtain ⟨t,rfl⟩:=rx
   obtain ⟨hy,e'⟩:y.length≤sizeLine∧k=((y.length:Int) != 0):=e
   subst e'
   exact PySem.P.truthy_str (by omega) ⟨H,I.tok _,q⟩
 | byt y =>
   obtain ⟨t,rfl⟩:=rx
   obtain ⟨hy,e'⟩:y.size≤sizeLine∧k=((y.size:Int) != 0):=e
   subst e'
   exact W.truthy_bytes (by omega) ⟨H,I.tok _,q⟩
 | ref p =>
   cases rx
   have e':(∃ xs,SqL X.K H p xs∧k=!xs.isEmpty)∨(∃ xs,SqT X.K H p xs∧k=!xs.isEmpty)∨∃ kvs,H p=some (.dK kvs)∧k=!kvs.isEmpty:=e
   rcases e' with ⟨xs,hx,e'⟩ | ⟨xs,hx,e'⟩ | ⟨kvs,hx,e'⟩
   · subst e'
     obtain ⟨its,r,pl,hz⟩:=I.list hx
     have hlen:=r.length
     exact wpAny_truthy_list pl.isList (by simp only [List.size_toArray]; omega) ⟨H,I.tok _,by rw [ap5 r]; exact q⟩
   · subst e'
     obtain ⟨its,r,pl,hz⟩:=I.tuple hx
     have hlen:=r.length
     exact truthy_tuple pl (by simp only [List.size_toArray]; omega) ⟨H,I.tok _,by rw [ap5 r]; exact q⟩
   · subst e'
     obtain ⟨hz,hS,vs,r,m⟩:kvs.length≤sizeLine∧(p == sysModules)=false∧∃ vs,KV kvs vs∧s.heap.DictOf (mixKind X.prog X.w) p vs:=I.hok p _ hx
     have hlen:kvs.length=vs.length:=Paired.length r
     exact wpAny_truthy_dict hS m (by omega) ⟨H,I.tok _,by rw [b72 r]; exact q⟩
 | _=>exact (show False from e).elim
theorem bl8 (ha:PE X a ta) (he:∀ whole,isTrue a X.env whole=(do let v←whole; standAt a.pos; holding [v] (truthy v))) :
 PT X a (fun σ H Q=>ta σ H fun x H'=>∃ k,TruV X.K x H' k∧Q k H'):=by
 intro pins s σ H Q I h
 exact isTrue_plain (thn (ha pins s σ H _ I h) fun v s1 ⟨x,H1,I1,r1,q1⟩=>c61 pins s1 σ H1 x v Q I1 r1 q1) (he _)
theorem b73:OpR X (binaryOp .Add) (fun x y H Q=>∃ i j,x=.str i∧y=.str j∧i.length+j.length≤sizeLine∧Q (.str (i++j)) H):=by
 intro pins s σ H x y v u Q I rx ry h
 obtain ⟨i,j,rfl,rfl,hz,q⟩:=h
 obtain ⟨t,rfl⟩:=rx
 obtain ⟨t',rfl⟩:=ry
 exact add_str (fun t' tk=>⟨.str (i++j),H,I.tok _,⟨_,rfl⟩,q⟩) hz
theorem b74 {x:V}{us:List Value}(r:Vals [x] us):∃ u,us=[u]∧RelV x u:=by
 cases r with
 | cons r1 r2=>cases r2; exact ⟨_,rfl,r1⟩
theorem bl9 {x y:V}{us:List Value}(r:Vals [x,y] us):∃ u w',us=[u,w']∧RelV x u∧RelV y w':=by
 cases r with
 | cons r1 r2 =>
   cases r2 with
   | cons r3 r4=>cases r4; exact ⟨_,_,rfl,r1,r3⟩
def LenV (K:W.Frag) (x:V) (H:Hp) (n:Nat):Prop :=
 match x with
 | .str y=>y.length≤sizeLine∧n=y.length
 | .byt y=>y.size≤sizeLine∧n=y.size
 | .ref p=>(∃ xs,SqL K H p xs∧n=xs.length)∨∃ xs,SqT K H p xs∧n=xs.length
 | _=>False
theorem bm0:CallR X (.builtin "len") (fun xs H Q=>∃ x n,xs=[x]∧LenV X.K x H n∧Q (.int n) H):=by
 intro pins s σ H xs us Q I r h
 obtain ⟨x,n,rfl,e,q⟩:=h
 obtain ⟨u,rfl,rx⟩:=b74 r
 have hl:=au0
 have hs:sizeLine=16777216:=sizeLine_eq
 cases x with
 | str y =>
   obtain ⟨t,rfl⟩:=rx
   obtain ⟨hy,e'⟩:y.length≤sizeLine∧n=y.length:=e
   subst e'
   exact len_str (by omega) ⟨.int _,H,I.tok _,⟨_,rfl⟩,q⟩
 | byt y =>
   obtain ⟨t,rfl⟩:=rx
   obtain ⟨hy,e'⟩:y.size≤sizeLine∧n=y.size:=e
   subst e'
   exact W.len_bytes (by omega) ⟨.int _,H,I.tok _,⟨_,rfl⟩,q⟩
 | ref p =>
   cases rx
   have e':(∃ xs,SqL X.K H p xs∧n=xs.length)∨∃ xs,SqT X.K H p xs∧n=xs.length:=e
   rcases e' with ⟨xs,hx,e'⟩ | ⟨xs,hx,e'⟩
   · subst e'
     obtain ⟨its,r',pl,hz⟩:=I.list hx
     have hlen:=r'.length
     exact Calls.call_len_list pl.isList (by simp only [List.size_toArray]; omega) ⟨.int xs.length,H,I.tok _,⟨_,by simp only [List.size_toArray]; rw [hlen]⟩,q⟩
   · subst e'
     obtain ⟨its,r',pl,hz⟩:=I.tuple hx
     have hlen:=r'.length
     exact len_tuple pl (by simp only [List.size_toArray]; omega) ⟨.int xs.length,H,I.tok _,⟨_,by simp only [List.size_toArray]; rw [hlen]⟩,q⟩
 | _=>exact (show False from e).elim
end
structure ObjM (h:Heap) (x dx C:Addr) (mA:Str→Option Value):Prop where
 obj:h.get? x=some (W.instObj C dx)
 ns:h.Ns1 dx mA
 ne:dx≠x
theorem bc3 {h:Heap}{dx:Addr}{mA:Str→Option Value}(n:h.Ns1 dx mA):∃ od,h.get? dx=some od∧∀ name,W.lookIn name od=some (mA name):=by
 obtain ⟨o,es,ep,ho,hd,hk,_,hm⟩:=n
 refine ⟨o,ho,fun name=>?_⟩
 have e:=hm name
 unfold nsFind findBy at e
 rw [← Array.find?_toList] at e
 unfold W.lookIn
 rw [hd]
 dsimp only
 split
 · rename_i y q
   rw [q] at e
   exact congrArg some e
 · rename_i q
   rw [q] at e
   have a:es.toList.any (·.refKey)=false:=by
    rw [List.any_eq_false]
    intro y hy
    obtain ⟨z,t,hkey⟩:=hk y (Array.mem_toList_iff.mp hy)
    simp [DictEntry.refKey,hkey]
   have a':¬ es.toList.any (·.refKey)=true:=by rw [a]; exact Bool.false_ne_true
   rw [if_neg a']
   exact congrArg some e
theorem ObjM.look {h:Heap}{x dx C:Addr}{mA:Str→Option Value}(I:ObjM h x dx C mA):∃ od,W.InstAt h x (W.instObj C dx) C (some od)∧∀ name,W.lookIn name od=some (mA name) :=
 let ⟨od,ho,hl⟩:=bc3 I.ns
 ⟨od,⟨I.obj,rfl,rfl,ho⟩,hl⟩
section
variable {prog:Program}{w:World}{A:Around}{E:Value→Shared→Prop}{s:Shared}{K:W.Frag}{x dx C f:Addr}{mA:Str→Option Value}{name:Str}{v:Value}
theorem bv6 {expr:Bool}{Q:Value→Shared→Prop}(X:K.In s.heap) (I:ObjM s.heap x dx C mA) (hg:W.plainGet K C name=true) (hh:W.hasDictIn K C=true)
 (ha:W.findIn K (.ref C) name=some none) (hv:mA name=some v) (hv':W.handedIn v=true) (h:Q v { s with toks:=s.toks+1 }) :
 wpAny (model prog w) A (getAttr (.ref x) name expr) Q E s:=by
 obtain ⟨od,J,hl⟩:=I.look
 exact W.get_value X J (W.plainGet_of hg).1 (W.findObj_own hh ha rfl (by rw [hl,hv])) hv' h
theorem bm1 {pl:Sem Bool}{Q:Value×List Value→Shared→Prop}(X:K.In s.heap) (I:ObjM s.heap x dx C mA) (hg:W.plainGet K C name=true)
 (hf:W.findIn K (.ref C) name=some (some (.ref f))) (ht:W.isFn K (.ref f)=true) (hv:mA name=none) (h:Q (.ref f,[.ref x]) s) :
 wpAny (model prog w) A (getMethod (.ref x) name pl) Q E s:=by
 obtain ⟨od,J,hl⟩:=I.look
 exact W.method_fn X J (W.plainGet_of hg).1 (W.plainGet_of hg).2 hf (beq_iff_eq.mp ht) (by show (W.lookIn name od).map (·.isSome)=some false; rw [hl,hv]; rfl) h
theorem bv7 {ns:List Str}{Q:Unit→Shared→Prop}(X:K.In s.heap) (I:ObjM s.heap x dx C mA)
 (hs:W.findIn K (.ref C) "__setattr__"=some (some (.builtin "object.__setattr__"))) (hp:W.plainOver K C=true) (ht:W.takerIn K C name=some none) (hh:W.hasDictIn K C=true)
 (hw:PySem.Within mA ns) (hsz:ns.length≤sizeLine)
 (h:∀ h',ObjM h' x dx C (fun y=>if y=name then some v else mA y)→Heap.SameBut dx s.heap h'→Q () { s with heap:=h',toks:=s.toks+2 }) :
 wpAny (model prog w) A (setAttr (.ref x) name v) Q E s:=by
 obtain ⟨od,J,hl⟩:=I.look
 refine W.set_plain X J hs (W.osa_open (s:={ s with toks:=s.toks+1 }) (r:=none) X J hp ht fun b=>?_)
 obtain ⟨cd,hc,hd'⟩:=W.any_some hh
 have hx:s.heap.get? x=some ⟨.ref C,some dx,.plain,#[]⟩:=I.obj
 refine wB (wpAny_pure (wB (wB (wpAny_loadPart hx (wB (W.Looks.here (s:={ s with toks:=s.toks+1 }) (W.looks_clsIn X hc) ?_))))))
 rw [hd']
 refine wpAny_pure (a:=some dx) (wB (wpAny_pure (wB ?_)))
 refine wpAny_nsSet1 (s:={ s with toks:=s.toks+1 }) I.ns fun h' hn2 hs2=>?_
 obtain ⟨oD,esD,epD,hoD,hdD,hcD⟩:=hn2.count (PySem.Within.cons name v hw)
 refine wB (wpAny_lookBehind hoD (by rw [hdD]; exact pastItsLine_dict (Nat.le_trans hcD (by rw [List.length_cons]; omega))) ?_)
 exact wpAny_pure (h _ ⟨(hs2.2 _ (Ne.symm I.ne)).trans I.obj,hn2,I.ne⟩ hs2)
theorem bm2 {R:Result→Shared→Prop}{vs:List Value}{kw:List (Str×Value)}(X:K.In s.heap) (hm:W.makesIn K C=true)
 (hi:W.findIn K (.ref C) "__init__"=some (some (.ref f))) (hf:W.typeIn K (.ref f)=some (.type "function"))
 (h:codeAny (model prog w) (A.under (.builtin "type.__call__" ⟨.ref C::vs,kw⟩)) (.call (.ref f) ⟨.ref (s.heap.objs.size+1)::vs,kw⟩) (W.InitBack (s.heap.objs.size+1) R)
  { s with heap:=(s.heap.push W.emptyDict).push (W.instObj C s.heap.objs.size) }) :
 codeAny (model prog w) A (.call (.ref C) ⟨vs,kw⟩) R s:=by
 obtain ⟨hh,g,d,t,os⟩:=s
 exact W.make_core (W.makes_of X hm) (W.looks_findIn X hi) (fun self=>W.bind_fn X self hf) (.inl rfl) h
end
def putF (f:Str) (v:V):List (Str×V)→List (Str×V)
 | []=>[(f,v)]
 | (g,x)::r=>if g=f then (g,v)::r else (g,x)::putF f v r
theorem a07 (f g:Str) (v:V):∀ fs:List (Str×V),(putF f v fs).lookup g=if g=f then some v else fs.lookup g
 | []=>by
   show List.lookup g [(f,v)]=_
   by_cases h:g=f
   · have hb:(g == f)=true:=beq_iff_eq.mpr h
     simp only [List.lookup,hb,if_pos h]
   · have hb:(g == f)=false:=beq_eq_false_iff_ne.mpr h
     simp only [List.lookup,hb,if_neg h]
 | (k,x)::r=>by
   have ih:=a07 f g v r
   rw [show putF f v ((k,x)::r)=(if k=f then (k,v)::r else (k,x)::putF f v r) from rfl]
   by_cases hk:k=f
   · rw [if_pos hk]
     by_cases h:g=k
     · have hb:(g == k)=true:=beq_iff_eq.mpr h
       simp only [List.lookup,hb,if_pos (h.trans hk)]
     · have hb:(g == k)=false:=beq_eq_false_iff_ne.mpr h
       simp only [List.lookup,hb,if_neg (fun e:g=f=>h (e.trans hk.symm))]
   · rw [if_neg hk]
     by_cases h:g=k
     · have hb:(g == k)=true:=beq_iff_eq.mpr h
       simp only [List.lookup,hb,if_neg (fun e:g=f=>hk (h.symm.trans e))]
     · have hb:(g == k)=false:=beq_eq_false_iff_ne.mpr h
       simp only [List.lookup,hb]
       exact ih
theorem am0 (f:Str) (v:V):∀ fs:List (Str×V),f∈(putF f v fs).map (·.1)∧∀ g,g∈fs.map (·.1)→g∈(putF f v fs).map (·.1)
 | []=>⟨by simp [putF],fun g h=>by simp at h⟩
 | (k,x)::r=>by
   obtain ⟨i1,i2⟩:=am0 f v r
   rw [show putF f v ((k,x)::r)=(if k=f then (k,v)::r else (k,x)::putF f v r) from rfl]
   by_cases hk:k=f
   · rw [if_pos hk]
     subst hk
     exact ⟨by simp,fun g h=>by simpa using h⟩
   · rw [if_neg hk]
     refine ⟨?_,fun g h=>?_⟩
     · rw [List.map_cons]
       exact List.mem_cons_of_mem _ i1
     · rw [List.map_cons] at h ⊢
       rcases List.mem_cons.mp h with e | e
       · exact List.mem_cons.mpr (.inl e)
       · exact List.mem_cons_of_mem _ (i2 g e)
theorem a95 (f:Str) (v:V):∀ fs:List (Str×V),(putF f v fs).length≤fs.length+1
 | []=>by simp [putF]
 | (k,x)::r=>by
   have ih:=a95 f v r
   rw [show putF f v ((k,x)::r)=(if k=f then (k,v)::r else (k,x)::putF f v r) from rfl]
   by_cases hk:k=f
   · rw [if_pos hk,List.length_cons,List.length_cons]; omega
   · rw [if_neg hk,List.length_cons,List.length_cons]; omega
theorem RelO.some_of {v:V}{o:Option Value}(r:RelO (some v) o):∃ u,o=some u∧RelV v u:=by
 cases o with
 | none=>exact (show False from r).elim
 | some u=>exact ⟨u,rfl,r⟩
theorem RelO.none_of {o:Option Value}(r:RelO none o):o=none:=by
 cases o with
 | none=>rfl
 | some u=>exact (show False from r).elim
theorem bc4 {v:V}{u:Value}(r:RelV v u):W.handedIn u=true:=by
 cases v with
 | non=>cases (show u=Value.none from r); rfl
 | bl b=>cases (show u=Value.bool b from r); rfl
 | int i=>obtain ⟨t,e⟩:=(show ∃ t,u=Value.int i t from r); cases e; rfl
 | str x=>obtain ⟨t,e⟩:=(show ∃ t,u=Value.str x t from r); cases e; rfl
 | byt b=>obtain ⟨t,e⟩:=(show ∃ t,u=Value.bytes b t from r); cases e; rfl
 | flt b=>obtain ⟨t,e⟩:=(show ∃ t,u=Value.float b t from r); cases e; rfl
 | ref a=>cases (show u=Value.ref a from r); rfl
 | ty n=>cases (show u=Value.type n from r); rfl
section
variable {P:Program}{w:World}{H H':Hp}{h h':Heap}{a C dx:Addr}{fs fs':List (Str×V)}
theorem ar3 (hok:HOk P w H h) (e:H a=some (.ins C dx fs)):∃ mA,ObjM h a dx C mA∧(∀ f,RelO (fs.lookup f) (mA f))∧PySem.Within mA (fs.map (·.1))∧fs.length≤1000∧H dx=some (.own a):=by
 obtain ⟨d,z,ne,ob,mA,n,r,q⟩:=(show ObjOk P w H h a (.ins C dx fs) from hok a _ e)
 exact ⟨mA,⟨ob,n,ne⟩,r,q,z,d⟩
end
structure Cls (K:W.Frag) (C:Addr):Prop where
 pg:W.plainGet K C Str.empty=true
 hd:W.hasDictIn K C=true
 po:W.plainOver K C=true
 sa:W.findIn K (.ref C) "__setattr__"=some (some (.builtin "object.__setattr__"))
theorem Cls.get {K:W.Frag}{C:Addr}(c:Cls K C) (f:Str):W.plainGet K C f=true:=c.pg
def NoAttr (K:W.Frag) (C:Addr) (f:Str):Prop:=W.findIn K (.ref C) f=some none
theorem NoAttr.taker {K:W.Frag}{C:Addr}{f:Str}(n:NoAttr K C f):W.takerIn K C f=some none:=by
 unfold W.takerIn
 rw [show W.findIn K (.ref C) f=some none from n]
 rfl
structure Meth (K:W.Frag) (C:Addr) (m:Str) (f:Addr):Prop where
 at_:W.findIn K (.ref C) m=some (some (.ref f))
 fn:W.isFn K (.ref f)=true
 kp:W.keepIn K (.ref f)=true
section
variable {X:Cx}{pins:List (Addr×Obj)}{σ:St} {H:Hp}{s:Shared}{a C dx:Addr}{fs:List (Str×V)}{f:Str}{v:V}{A:Around}{E:Value→Shared→Prop}
theorem b75 {b:Bool}{Q:Value→Shared→Prop}(I:Inv X pins σ H s) (e:H a=some (.ins C dx fs)) (c:Cls X.K C) (n:NoAttr X.K C f) (l:fs.lookup f=some v)
 (h:∀ u s',Inv X pins σ H s'→RelV v u→Q u s'):wpAny (model X.prog X.w) A (getAttr (.ref a) f b) Q E s:=by
 obtain ⟨mA,O,r,_,_,_⟩:=ar3 I.hok e
 obtain ⟨u,hu,ru⟩:=RelO.some_of (v:=v) (o:=mA f) (by rw [← l]; exact r f)
 exact bv6 I.kIn O (c.get f) c.hd n hu (bc4 ru) (h u _ (I.tok _) ru)
theorem ae0 {m:Str}{g:Addr}{pl:Sem Bool}{Q:Value×List Value→Shared→Prop}(I:Inv X pins σ H s) (e:H a=some (.ins C dx fs)) (c:Cls X.K C) (k:Meth X.K C m g) (l:fs.lookup m=none)
 (h:Q (.ref g,[.ref a]) s):wpAny (model X.prog X.w) A (getMethod (.ref a) m pl) Q E s:=by
 obtain ⟨mA,O,r,_,_,_⟩:=ar3 I.hok e
 have hn:mA m=none:=RelO.none_of (by rw [← l]; exact r m)
 exact bm1 I.kIn O (c.get m) k.at_ k.fn hn h
theorem b76 {y:V}{u:Value}{Q:Unit→Shared→Prop}(I:Inv X pins σ H s) (e:H a=some (.ins C dx fs)) (c:Cls X.K C) (n:NoAttr X.K C f) (hl:fs.length<1000) (ry:RelV y u)
 (h:∀ s',Inv X pins σ (upd H a (.ins C dx (putF f y fs))) s'→Q () s'):wpAny (model X.prog X.w) A (setAttr (.ref a) f u) Q E s:=by
 obtain ⟨mA,O,r,wi,_,ho⟩:=ar3 I.hok e
 have hz:(fs.map (·.1)).length≤sizeLine:=by rw [gL,sizeLine_eq]; omega
 refine bv7 I.kIn O c.sa c.po n.taker c.hd wi hz fun h' O' sb=>h _ ?_
 have hd:∃ o,h'.get? dx=some o:=let ⟨o,_,_,e',_⟩:=O'.ns; ⟨o,e'⟩
 refine I.write (x:=a) (e:=dx) (by rw [e]; exact True.intro) (.inr ho) (fun b q hb z=>(sb.2 b hb).trans z) hd ?_
 refine ⟨by rw [a09 O.ne]; exact ho,?_,O.ne,O'.obj,_,O'.ns,fun g=>?_,fun g hg=>?_⟩
 · have:=a95 f y fs; omega
 · show RelO ((putF f y fs).lookup g) (if g=f then some u else mA g)
   rw [a07]
   by_cases q:g=f
   · rw [if_pos q,if_pos q]; exact ry
   · rw [if_neg q,if_neg q]; exact r g
 · by_cases q:g=f
   · rw [q]; exact (am0 f y fs).1
   · refine (am0 f y fs).2 g (wi g fun z=>hg ?_)
     show (if g=f then some u else mA g)=none
     rw [if_neg q]; exact z
theorem Inv.made (I:Inv X pins σ H s):Inv X pins σ (upd (upd H s.heap.objs.size (.own (s.heap.objs.size+1))) (s.heap.objs.size+1) (.ins C s.heap.objs.size []))
 { s with heap:=(s.heap.push W.emptyDict).push (W.instObj C s.heap.objs.size) }:=by
 have e1:(s.heap.push W.emptyDict).get? s.heap.objs.size=some W.emptyDict:=Heap.get?_push_size s.heap rfl
 have e2:((s.heap.push W.emptyDict).push (W.instObj C s.heap.objs.size)).get? (s.heap.objs.size+1)=some (W.instObj C s.heap.objs.size):=by
  have:=Heap.get?_push_size (s.heap.push W.emptyDict) (o:=W.instObj C s.heap.objs.size) rfl
  rwa [Heap.size_push] at this
 have e3:(s.heap.push W.emptyDict).Ns s.heap.objs.size (fun _=>none):=⟨W.emptyDict,#[],_,e1,rfl,(fun e he=>absurd he (by simp)),fun _=>rfl⟩
 have I1:=I.laid (a:=s.heap.objs.size) (o:=.own (s.heap.objs.size+1)) (h':=s.heap.push W.emptyDict) (t':=s.toks) (fun b u q=>gP _ q) (Nat.le_refl _) ⟨_,e1⟩
 refine I1.laid (a:=s.heap.objs.size+1) (o:=.ins C s.heap.objs.size []) (t':=s.toks) (fun b u q=>gP _ q) (Nat.le_of_eq (Heap.size_push _ _)) ?_
 have ne:s.heap.objs.size≠s.heap.objs.size+1:=Nat.ne_of_lt (Nat.lt_succ_self _)
 refine ⟨by rw [a09 ne,a41],Nat.zero_le _,ne,e2,fun _=>none,(Heap.Ns1.of_empty e3).at fun o q=>gP _ q,fun _=>True.intro,fun y hy=>absurd rfl hy⟩
theorem bv8 {prog:Program}{w:World}{env:Env}{e:Expr}{f:Str}{pos:Pos}{s:Shared}{Q:Value→Shared→Prop}(hb:attributeBase e f env (eval e env)=eval e env)
 (h:wpAny (model prog w) A (eval e env) (fun o s₁=>wpAny (model prog w) A (getAttr o f true) Q E s₁) E s):wpAny (model prog w) A (eval (.Attribute e f pos) env) Q E s :=
 Attribute_any_ h (by rw [arm_eval_Attribute,hb])
end
def tFld (K:W.Frag) (ta:TE) (f:Str):TE:=fun σ H Q=>ta σ H fun x H1=>∃ a C dx fs v,x=.ref a∧H1 a=some (.ins C dx fs)∧Cls K C∧NoAttr K C f∧fs.lookup f=some v∧Q v H1
def sFld (K:W.Frag) (ta tv:TE) (f:Str):TS:=fun D σ H=>tv σ H fun y H1=>ta σ H1 fun x H2=>∃ a C dx fs,x=.ref a∧H2 a=some (.ins C dx fs)∧Cls K C∧NoAttr K C f∧fs.length<1000 ∧
 D.nx σ (upd H2 a (.ins C dx (putF f y fs)))
section
variable {X:Cx}{o e value:Expr}{f:Str}{pos pos' tpos:Pos}{ta tv:TE}
theorem c62 (he:PE X e ta) (hb:attributeBase e f X.env (eval e X.env)=eval e X.env):PE X (.Attribute e f pos) (tFld X.K ta f):=by
 intro pins s σ H Q I h
 refine bv8 hb (thn (he pins s σ H _ I h) fun u s1 ⟨x,H1,I1,rx,a,C,dx,fs,v,ex,ea,c,n,l,q⟩=>?_)
 subst ex
 obtain rfl:u=Value.ref a:=rx
 exact b75 I1 ea c n l fun u' s2 I2 ru=>⟨v,H1,I2,ru,q⟩
theorem c63 (ha:PE X o ta) (hv:PE X value tv) (hs:swapsWith value (some (.Attribute o f pos')) pos.line X.env=pure false):PS X (.Assign [.Attribute o f pos'] value pos) (sFld X.K ta tv f):=by
 intro pins s σ H D I h
 refine plainObj_wpAny_Assign_Attribute (thn (hv pins s σ H _ I h) fun u s1 ⟨y,H1,I1,ry,q⟩=>thn (ha pins s1 σ H1 _ I1 q) fun ov s2 ⟨x,H2,I2,rx,a,C,dx,fs,ex,ea,c,n,l,q2⟩=>?_) hs
 subst ex
 obtain rfl:ov=Value.ref a:=rx
 exact b76 I2 ea c n l ry fun s3 I3=>⟨σ,_,I3,q2⟩
end
section
variable {X:Cx}{pins:List (Addr×Obj)}{σ:St} {H:Hp}{s:Shared}{A:Around}{E:Value→Shared→Prop}{Q:Value→Shared→Prop}{c:Value}{b:Bool}
inductive TyOf (K:W.Frag) (H:Hp):V→Value→Prop where
 | non:TyOf K H .non (.type "NoneType")
 | bl (x:Bool):TyOf K H (.bl x) (.type "bool")
 | int (i:Int):TyOf K H (.int i) (.type "int")
 | str (x:Str):TyOf K H (.str x) (.type "str")
 | flt (x:UInt64):TyOf K H (.flt x) (.type "float")
 | lst {a:Addr}{xs:List V}(e:H a=some (.lst xs)):TyOf K H (.ref a) (.type "list")
 | frz {a:Addr}{o:Obj}{xs:List V}(e:H a=some (.frz o (.lst xs))):TyOf K H (.ref a) (.type "list")
 | tup {a:Addr}{xs:List V}(e:H a=some (.tup xs)):TyOf K H (.ref a) (.type "tuple")
 | dK {a:Addr}{kvs:List (Key×V)}(e:H a=some (.dK kvs)):TyOf K H (.ref a) (.type "dict")
 | dT {a:Addr}{kvs:List (List Key×V)}(e:H a=some (.dT kvs)):TyOf K H (.ref a) (.type "dict")
 | ins {a C dx:Addr}{fs:List (Str×V)}(e:H a=some (.ins C dx fs)) (cl:Cls K C) (ha:W.findIn K (.ref C) "__class__"=some (some (.builtin "object.__class__")))
  (hn:W.specialIn K (.builtin "object.__class__") "__get__"=some (some (.builtin "getset_descriptor.__get__"))) (htk:W.takesIn K (.builtin "object.__class__")=some true)
  (hm:W.mroIn K C (.type "object")=some true):TyOf K H (.ref a) (.ref C)
theorem bc5 {x:V}{u t:Value}(I:Inv X pins σ H s) (rx:RelV x u) (ty:TyOf X.K H x t) (e:W.kitOne X.K t c=some b) (h:∀ tk,Q (.bool b) { s with toks:=tk }) :
 wpAny (model X.prog X.w) A (call (.builtin "isinstance") [u,c]) Q E s:=by
 cases ty with
 | non=>cases (show u=Value.none from rx); exact W.kia_one W.kitx_none I.kIn True.intro e (fun z=>nomatch z) h
 | bl y=>cases (show u=Value.bool y from rx); exact W.kia_one W.kitx_bool I.kIn True.intro e (fun z=>nomatch z) h
 | int i=>obtain ⟨t,q⟩:=(show ∃ t,u=Value.int i t from rx); cases q; exact W.kia_one W.kitx_int I.kIn True.intro e (fun z=>nomatch z) h
 | str y=>obtain ⟨t,q⟩:=(show ∃ t,u=Value.str y t from rx); cases q; exact W.kia_one W.kitx_str I.kIn True.intro e (fun z=>nomatch z) h
 | flt y=>obtain ⟨t,q⟩:=(show ∃ t,u=Value.float y t from rx); cases q; exact W.kia_one W.kitx_float I.kIn True.intro e (fun z=>nomatch z) h
 | @lst a xs ea =>
   cases (show u=Value.ref a from rx)
   obtain ⟨_,_,n,_,h1⟩:=(show ObjOk X.prog X.w H s.heap a (.lst xs) from I.hok a _ ea)
   exact W.kia_one W.kitx_list I.kIn ⟨_,h1,rfl⟩ e (fun z=>nomatch z) h
 | @frz a ob xs ea =>
   cases (show u=Value.ref a from rx)
   obtain ⟨_,_,_,n,_,h1⟩:=(show ObjOk X.prog X.w H s.heap a (.frz ob (.lst xs)) from I.hok a _ ea)
   exact W.kia_one W.kitx_list I.kIn ⟨_,h1,rfl⟩ e (fun z=>nomatch z) h
 | @tup a xs ea =>
   cases (show u=Value.ref a from rx)
   obtain ⟨_,_,_,p⟩:=(show ObjOk X.prog X.w H s.heap a (.tup xs) from I.hok a _ ea)
   obtain ⟨o,h1,h2,_⟩:=p
   exact W.kia_one W.kitx_tuple I.kIn ⟨o,h1,h2⟩ e (fun z=>nomatch z) h
 | @dK a kvs ea =>
   cases (show u=Value.ref a from rx)
   obtain ⟨_,_,vs,_,p⟩:=(show ObjOk X.prog X.w H s.heap a (.dK kvs) from I.hok a _ ea)
   obtain ⟨o,es,ep,h1,h2,_⟩:=p
   exact W.kia_one W.kitx_dict I.kIn ⟨o,h1,h2.1⟩ e (fun z=>nomatch z) h
 | @dT a kvs ea =>
   cases (show u=Value.ref a from rx)
   obtain ⟨_,_,xs,_,o,es,ep,h1,h2,_⟩:=(show ObjOk X.prog X.w H s.heap a (.dT kvs) from I.hok a _ ea)
   exact W.kia_one W.kitx_dict I.kIn ⟨o,h1,h2.1⟩ e (fun z=>nomatch z) h
 | @ins a C dx fs ea cl ha hn htk hm =>
   cases (show u=Value.ref a from rx)
   obtain ⟨mA,O,_⟩:=ar3 I.hok ea
   obtain ⟨od,J,_⟩:=O.look
   exact W.kia_one (W.kitx_own (cl.get _) cl.hd ha hn htk hm) I.kIn J e (fun z=>nomatch z) h
end
structure Room (k:Nat) (A:Around):Prop where
 hd:A.handled=none
 dp:A.depth+3*k+5<recursionLimit
 un:A.units+16*k+200<cLine
theorem Room.mono {j k:Nat}{A:Around}(r:Room k A) (h:j≤k):Room j A:=⟨r.hd,by have:=r.dp; omega,by have:=r.un; omega⟩
theorem Room.deeper {k:Nat}{A:Around}(r:Room (k+1) A) (env:Env):Room k (A.deeper env) :=
 ⟨r.hd,by have:=r.dp; show A.depth+1+3*k+5<_; omega,by have:=r.un; show A.units+3+16*k+200<_; omega⟩
theorem b77 {A:Around}{C:Addr}{us:List Value}{kw:List (Str×Value)}:(A.under (.builtin "type.__call__" ⟨.ref C::us,kw⟩)).depth=A.depth+1:=by
 first | rfl | simp [Around.under,Code.weight,Code.isCreation,Code.isGuard,Code.isCaller,Code.frames,Code.isFrame,guardIds]
theorem b78 {A:Around}{C:Addr}{us:List Value}{kw:List (Str×Value)}:(A.under (.builtin "type.__call__" ⟨.ref C::us,kw⟩)).units=A.units+1:=by
 first | rfl | simp [Around.under,Code.cUnits,Code.frames,Code.isFrame]
theorem Room.make {k:Nat}{A:Around}(r:Room (k+1) A) (C:Addr) (us:List Value) (kw:List (Str×Value)):Room k (A.under (.builtin "type.__call__" ⟨.ref C::us,kw⟩)) :=
 ⟨r.hd,by have:=r.dp; rw [b77]; omega,by have:=r.un; rw [b78]; omega⟩
theorem Room.depth {k:Nat}{A:Around}(r:Room k A):A.depth<recursionLimit:=by have:=r.dp; omega
theorem Room.units {k:Nat}{A:Around}(r:Room k A):A.units+64<cLine:=by have:=r.un; omega
theorem Room.units0 {k:Nat}{A:Around}(r:Room k A):A.units<cLine:=by have:=r.un; omega
def tNil:TA:=fun _ H Q=>Q [] H
def tCons (ta:TE) (tr:TA):TA:=fun σ H Q=>ta σ H fun x H1=>tr σ H1 fun xs H2=>Q (x::xs) H2
section
variable {X:Cx}{e:Expr}{es:List Expr}{te:TE}{t:TA}{pos:Pos}
theorem a01:PA X [] tNil:=fun _ _ _ _ H Q I h=>Calls.spliced_nil ⟨[],H,I,.nil,h⟩
theorem a00 (ha:PE X e te) (hr:PA X es t) (hs:starEach (e::es) X.env=(false,eval e X.env)::starEach es X.env:=by rfl):PA X (e::es) (tCons te t):=by
 intro pos pins s σ H Q I h
 rw [hs]
 show wpAny _ _ (spliced ((false,eval e X.env)::backTo pos (starEach es X.env))) _ _ s
 refine Calls.spliced_cons (thn (ha pins s σ H _ I h) fun u s1 ⟨x,H1,I1,r1,q1⟩=>?_)
 exact thn (hr pos pins s1 σ H1 _ I1 q1) fun us s2 ⟨xs,H2,I2,r2,q2⟩=>⟨x::xs,H2,I2,.cons r1 r2,q2⟩
end
abbrev Sp:=List V→Hp→VK→XK→Prop
abbrev CXT:=List Env→Hp→Shared→XK→Value→Shared→Prop
structure Env0 (P:Program) (w:World) (K:W.Frag) (mg:Str→Option Value) (base:Heap) (A:Around) (outer:List Env) (s:Shared) (H:Hp):Prop where
 frames:A.frames=some outer
 mod:Mod K mg base
 bs:∀ b o,base.get? b=some o→s.heap.get? b=some o∧H b=none
 bsz:base.objs.size≤s.heap.objs.size
 funs:s.heap.FunFrames base outer
 frf:∀ b∈frs outer,H b=none
 hok:HOk P w H s.heap
 bare:AllBare s.gens
def CE (outer:List Env) (P:Program) (w:World) (H:Hp) (s:Shared) (Q:VK) (u:Value) (s':Shared):Prop :=
 ∃ v H',s'.os=s.os∧AllBare s'.gens∧Un (frs outer) [] H H' s.heap s'.heap∧HOk P w H' s'.heap∧RelV v u∧Q v H'
def CR (CX:CXT) (outer:List Env) (P:Program) (w:World) (H:Hp) (s:Shared) (Q:VK) (E:XK) (r:Result) (s':Shared):Prop :=
 match r with
 | .ok (.ret u)=>CE outer P w H s Q u s'
 | .ok _=>False
 | .error e=>CX outer H s E e s'
structure FnOk (P:Program) (w:World) (K:W.Frag) (mg:Str→Option Value) (base:Heap) (CX:CXT) (k:Nat) (f:Addr) (fd:FuncData) (ps:List Str) (sp:Sp):Prop where
 len:∀ vs H Q E,sp vs H Q E→vs.length=ps.length
 run:∀ (A:Around) (outer:List Env) (s:Shared) (H:Hp) (args:Args) (us:List Value) (vs:List V) (Q:VK) (E:XK),Room k A→Env0 P w K mg base A outer s H→BindsTo s fd args (ps.zip us)→Vals vs us→sp vs H Q E →
  codeAny (model P w) A (.call (.ref f) args) (CR CX outer P w H s Q E) s
theorem Env0.make {P:Program}{w:World}{K:W.Frag}{mg:Str→Option Value}{base:Heap}{A:Around}{outer:List Env}{s:Shared}{H:Hp}(e:Env0 P w K mg base A outer s H) (C:Addr) (us:List Value) (kw:List (Str×Value)) :
 Env0 P w K mg base (A.under (.builtin "type.__call__" ⟨.ref C::us,kw⟩)) outer s H:=⟨by first | exact e.frames | (simpa [Around.under,Code.envs,Code.isFrame,pushEnvs] using e.frames),e.mod,e.bs,e.bsz,e.funs,e.frf,e.hok,e.bare⟩
section
variable {X:Cx}{pins:List (Addr×Obj)}{σ:St} {H:Hp}{s s':Shared}
theorem Inv.env0 (I:Inv X pins σ H s):Env0 X.prog X.w X.K X.mg X.base X.A X.stack s H :=
 ⟨I.ok.frames,I.ok.mod,I.bs,Nat.le_trans I.ok.bsz I.sz,I.stack,I.stkFree,I.hok,I.bare⟩
theorem Inv.after {Q:VK}{u:Value}(I:Inv X pins σ H s) (h:CE X.stack X.prog X.w H s Q u s'):EP X pins σ Q u s':=by
 obtain ⟨v,H',os,bare,un,hok,r,q⟩:=h
 obtain ⟨hh,g,d,t,os'⟩:=s'
 obtain rfl:os'=s.os:=os
 exact ⟨v,H',I.call (h':=hh) (g':=g) (d':=d) (t':=t) (ch:=[]) un hok bare (fun b z=>absurd z (by simp)),r,q⟩
end
def tCall (sp:Sp) (dvs:List V) (E:XK) (t:TA):TE:=fun σ H Q=>t σ H fun vs H1=>sp (vs++dvs) H1 Q E
def tMeth (C:Addr) (m:Str) (sp:Sp) (dvs:List V) (E:XK) (ta:TE) (t:TA):TE:=fun σ H Q=>ta σ H fun x H1=>∃ a dx fs,x=.ref a∧H1 a=some (.ins C dx fs)∧fs.lookup m=none ∧
 t σ H1 fun vs H2=>sp (x::(vs++dvs)) H2 Q E
def tMake (C:Addr) (sp:Sp) (dvs:List V) (E:XK) (t:TA):TE:=fun σ H Q=>t σ H fun vs H1=>∀ x dx,H1 x=none→H1 dx=none→dx≠x →
 sp (.ref x::(vs++dvs)) (upd (upd H1 dx (.own x)) x (.ins C dx [])) (fun v H2=>v=.non∧Q (.ref x) H2) E
def Binds (K:W.Frag) (fd:FuncData) (ps:List Str) (ds:List Value):Prop :=
 ∀ (s:Shared) (us:List Value),K.In s.heap→(us++ds).length=ps.length→BindsTo s fd ⟨us,[]⟩ (ps.zip (us++ds))
theorem Binds.all {K:W.Frag}{fd:FuncData}{ps:List Str}(h:∀ us:List Value,us.length=ps.length→bindArgs fd ⟨us,[]⟩=pure (ps.zip us)):Binds K fd ps []:=fun s us _ hl=>by
 rw [List.append_nil] at hl ⊢
 exact .of_eq (h us hl)
def Passes (CX:CXT) (X:Cx) (E:XK):Prop:=∀ (pins:List (Addr×Obj)) (σ:St) (H:Hp) (s:Shared) (e:Value) (s':Shared),Inv X pins σ H s→CX X.stack H s E e s'→X.xe e s'
section
variable {X:Cx}{CX:CXT}{k:Nat}{f C:Addr}{fd:FuncData}{ps:List Str}{sp:Sp}{dvs:List V}{ds:List Value}{E:XK}{x m:Str}{p pos apos:Pos}{e o:Expr}{es:List Expr}{ta:TE}{t:TA}
theorem am1 {pins:List (Addr×Obj)}{σ:St} {H:Hp}{s:Shared}{Q:VK}{us:List Value}{vs:List V}(F:FnOk X.prog X.w X.K X.mg X.base CX k f fd ps sp) (hr:Room k X.A) (hb:Binds X.K fd ps ds) (hd:Vals dvs ds) (hx:Passes CX X E)
 (I:Inv X pins σ H s) (r:Vals vs us) (h:sp (vs++dvs) H Q E):wpAny (model X.prog X.w) X.A (call (.ref f) us) (EP X pins σ Q) X.xe s:=by
 have r2:Vals (vs++dvs) (us++ds):=r.append hd
 have hl:(us++ds).length=ps.length:=by rw [← r2.length]; exact F.len _ _ _ _ h
 refine wpAny_call (codeAny_mono (F.run X.A X.stack s H ⟨us,[]⟩ (us++ds) (vs++dvs) Q E hr I.env0 (hb s us I.kIn hl) r2 h) fun r s' hq=>?_)
 cases r with
 | error e=>exact hx pins σ H s e s' I hq
 | ok fl =>
   cases fl with
   | ret u=>exact I.after hq
   | next=>exact False.elim hq
   | brk=>exact False.elim hq
   | cont=>exact False.elim hq
theorem a40 (F:FnOk X.prog X.w X.K X.mg X.base CX k f fd ps sp) (hr:Room k X.A) (hg:Gl X x) (hm:X.mg x=some (.ref f)) (hk:W.keepIn X.K (.ref f)=true) (hb:Binds X.K fd ps ds) (hd:Vals dvs ds) (hx:Passes CX X E)
 (ha:PA X (e::es) t) (hdb:(x == ("__debug__":Str))=false:=by decide) (he:starEach (e::es) X.env=(false,eval e X.env)::starEach es X.env:=by rfl) (hpl:(backTo pos (starEach es X.env)).any (·.1)=false:=by rfl) :
 PE X (.Call (.Name x p) (e::es) [] pos) (tCall sp dvs E t):=by
 intro pins s σ H Q I h
 refine wpAny_Call_Name_kw (ay2 I hg hm ?_ hdb)
 refine W.callWith_K (h₀:=X.base) I.ok.mod.kin hk (thn (ha pos pins s σ H _ I h) fun us s1 ⟨vs,H1,I1,r,q⟩=>⟨I1.kIn,?_⟩) he hpl
 exact am1 F hr hb hd hx I1 r q
theorem af3 {pl:Sem Bool}(he:PE X o ta) (c:Cls X.K C) (hm:Meth X.K C m f) (F:FnOk X.prog X.w X.K X.mg X.base CX k f fd ps sp) (hr:Room k X.A) (hb:Binds X.K fd ps ds) (hd:Vals dvs ds) (hx:Passes CX X E) (ha:PA X (e::es) t)
 (hst:starEach (e::es) X.env=(false,eval e X.env)::starEach es X.env:=by rfl) (hpl:(backTo pos (starEach es X.env)).any (·.1)=false:=by rfl)
 (ht:eval (.Call (.Attribute o m apos) (e::es) [] pos) X.env=(do
  let ov←eval o X.env
  standAt apos.atName
  let (f,first)←holding [ov] (getMethod ov m pl)
  callWith pos f first (backTo pos (starEach (e::es) X.env)) (backToKw pos (keywordEach [] X.env))):=by rfl) :
 PE X (.Call (.Attribute o m apos) (e::es) [] pos) (tMeth C m sp dvs E ta t):=by
 intro pins s σ H Q I h
 refine W.methodCall_KW (pl:=pl) (thn (he pins s σ H _ I h) fun u s1 ⟨x,H1,I1,rx,a,dx,fs,ex,ea,l,q⟩=>?_) ht
 subst ex
 obtain rfl:u=Value.ref a:=rx
 refine ae0 I1 ea c hm l ?_
 refine W.callWith_K (first:=[.ref a]) (h₀:=X.base) I.ok.mod.kin hm.kp (thn (ha pos pins s1 σ H1 _ I1 q) fun us s2 ⟨vs,H2,I2,r,q2⟩=>⟨I2.kIn,?_⟩) hst hpl
 exact am1 (us:=.ref a::us) (vs:=.ref a::vs) F hr hb hd hx I2 (.cons rfl r) q2
theorem b47 {pl:Sem Bool}(he:PE X o ta) (c:Cls X.K C) (hm:Meth X.K C m f) (F:FnOk X.prog X.w X.K X.mg X.base CX k f fd ps sp) (hr:Room k X.A) (hb:Binds X.K fd ps ds) (hd:Vals dvs ds) (hx:Passes CX X E)
 (ht:eval (.Call (.Attribute o m apos) [] [] pos) X.env=(do
  let ov←eval o X.env
  standAt apos.atName
  let (f,first)←holding [ov] (getMethod ov m pl)
  callWith pos f first (backTo pos (starEach [] X.env)) (backToKw pos (keywordEach [] X.env))):=by rfl) :
 PE X (.Call (.Attribute o m apos) [] [] pos) (tMeth C m sp dvs E ta tNil):=by
 intro pins s σ H Q I h
 refine W.methodCall_KW (pl:=pl) (thn (he pins s σ H _ I h) fun u s1 ⟨x,H1,I1,rx,a,dx,fs,ex,ea,l,q⟩=>?_) ht
 subst ex
 obtain rfl:u=Value.ref a:=rx
 refine ae0 I1 ea c hm l ?_
 exact W.callWith_K0 (first:=[.ref a]) I1.kIn hm.kp (am1 (us:=[.ref a]) (vs:=[.ref a]) F hr hb hd hx I1 (.cons rfl .nil) q)
structure Mk (K:W.Frag) (C f:Addr):Prop where
 makes:W.makesIn K C=true
 init:W.findIn K (.ref C) "__init__"=some (some (.ref f))
 fn:W.isFn K (.ref f)=true
 kp:W.keepIn K (.ref C)=true
theorem bm3 {pins:List (Addr×Obj)}{σ:St} {H:Hp}{s:Shared}{Q:VK}{us:List Value}{vs:List V}(M:Mk X.K C f) (F:FnOk X.prog X.w X.K X.mg X.base CX k f fd ps sp) (hr:Room (k+1) X.A) (hb:Binds X.K fd ps ds) (hd:Vals dvs ds)
 (hx:Passes CX X E) (I:Inv X pins σ H s) (r:Vals vs us)
 (h:∀ x dx,H x=none→H dx=none→dx≠x→sp (.ref x::(vs++dvs)) (upd (upd H dx (.own x)) x (.ins C dx [])) (fun v H2=>v=.non∧Q (.ref x) H2) E) :
 wpAny (model X.prog X.w) X.A (call (.ref C) us) (EP X pins σ Q) X.xe s:=by
 have hq:=h (s.heap.objs.size+1) s.heap.objs.size (I.hok.fresh (Nat.le_succ _)) (I.hok.fresh (Nat.le_refl _)) (Nat.ne_of_lt (Nat.lt_succ_self _))
 have I2:=Inv.made (C:=C) I
 have r2:Vals (V.ref (s.heap.objs.size+1)::(vs++dvs)) (Value.ref (s.heap.objs.size+1)::(us++ds)):=.cons rfl (r.append hd)
 have hl:(Value.ref (s.heap.objs.size+1)::us++ds).length=ps.length:=by
  have e:=r2.length
  rw [F.len _ _ _ _ hq] at e
  exact e.symm
 refine wpAny_call (bm2 (f:=f) I.kIn M.makes M.init (beq_iff_eq.mp M.fn) (codeAny_mono (F.run _ X.stack _ _ ⟨Value.ref (s.heap.objs.size+1)::us,[]⟩ (Value.ref (s.heap.objs.size+1)::(us++ds)) _ _ E (hr.make C us [])
  (I2.env0.make C us []) (hb _ (Value.ref (s.heap.objs.size+1)::us) I2.kIn hl) r2 hq) fun r s' hq'=>?_))
 cases r with
 | error e=>exact hx pins σ _ _ e s' I2 hq'
 | ok fl =>
   cases fl with
   | ret u =>
     obtain ⟨v,H',I3,rv,ev,q3⟩:=I2.after hq'
     subst ev
     exact ⟨rv,⟨V.ref (s.heap.objs.size+1),H',I3,rfl,q3⟩⟩
   | next=>exact False.elim hq'
   | brk=>exact False.elim hq'
   | cont=>exact False.elim hq'
theorem bc6 (M:Mk X.K C f) (F:FnOk X.prog X.w X.K X.mg X.base CX k f fd ps sp) (hr:Room (k+1) X.A) (hg:Gl X x) (hm:X.mg x=some (.ref C)) (hb:Binds X.K fd ps ds) (hd:Vals dvs ds) (hx:Passes CX X E)
 (ha:PA X (e::es) t) (hdb:(x == ("__debug__":Str))=false:=by decide) (he:starEach (e::es) X.env=(false,eval e X.env)::starEach es X.env:=by rfl) (hpl:(backTo pos (starEach es X.env)).any (·.1)=false:=by rfl) :
 PE X (.Call (.Name x p) (e::es) [] pos) (tMake C sp dvs E t):=by
 intro pins s σ H Q I h
 refine wpAny_Call_Name_kw (ay2 I hg hm ?_ hdb)
 refine W.callWith_K (h₀:=X.base) I.ok.mod.kin M.kp (thn (ha pos pins s σ H _ I h) fun us s1 ⟨vs,H1,I1,r,q⟩=>⟨I1.kIn,?_⟩) he hpl
 exact bm3 M F hr hb hd hx I1 r q
end
section
variable {X:Cx}{CX:CXT}{k:Nat}{f C:Addr}{fd:FuncData}{ps ks:List Str}{sp:Sp}{E:XK}{x m:Str}{p pos apos kpos:Pos}{e o:Expr}{es:List Expr}{kws:List Keyword}{te ta:TE}{t tk:TA}{nm:Option Str}
variable {g:List Value→List Value→List Value}{gV:List V→List V→List V}
end
structure FnScope (N P:List Str) (sc:Scope):Prop where
 kind:sc.kind=.function
 co:sc.isCoroutine=false
 gen:sc.isGenerator=false
 nd:N.Nodup
 pre:N.take P.length=P
 par:∀ x∈P,sc.names.lookup x=some .local∨sc.names.lookup x=some .cell
 nofree:∀ y∈sc.names,y.2≠.free
theorem au1 {kindOf:Str→Option NameKind}{x:Str}:∀ {binds:List (Str×Value)}{m:Str→Option Value},(∀ v,(x,v)∉binds)→bindL kindOf binds m x=m x
 | [],_,_=>rfl
 | (n,v)::r,m,h=>by
   unfold bindL
   rw [au1 fun w hw=>h w (List.mem_cons_of_mem _ hw)]
   split
   · have:x≠n:=by rintro rfl; exact h v List.mem_cons_self
     simp [this]
   · rfl
theorem au2 {kindOf:Str→Option NameKind}{x:Str}:∀ {binds:List (Str×Value)}{m:Str→Option Value},(∀ v,(x,v)∉binds)→bindC kindOf binds m x=m x
 | [],_,_=>rfl
 | (n,v)::r,m,h=>by
   unfold bindC
   rw [au2 fun w hw=>h w (List.mem_cons_of_mem _ hw)]
   split
   · rfl
   · have:x≠n:=by rintro rfl; exact h v List.mem_cons_self
     simp [this]
theorem au3 {kindOf:Str→Option NameKind}{x:Str}{v:Value}:∀ {P:List Str}{vs:List Value}{i:Nat}{m:Str→Option Value},P.Nodup→P[i]?=some x→vs[i]?=some v→kindOf x=some .local →
 bindL kindOf (P.zip vs) m x=some v
 | [],_,_,_,_,h,_,_=>by simp at h
 | _::_,[],_,_,_,_,h,_=>by simp at h
 | p::P,w::vs,0,m,nd,h1,h2,hk=>by
   simp at h1 h2; subst h1; subst h2
   show bindL kindOf ((p,w)::P.zip vs) m p=_
   unfold bindL
   rw [au1 fun v hv=>(List.nodup_cons.mp nd).1 (List.of_mem_zip hv).1,if_pos hk]
   simp
 | p::P,w::vs,i+1,m,nd,h1,h2,hk=>by
   show bindL kindOf ((p,w)::P.zip vs) m x=_
   unfold bindL
   exact au3 (i:=i) (List.nodup_cons.mp nd).2 (by simpa using h1) (by simpa using h2) hk
theorem au4 {kindOf:Str→Option NameKind}{x:Str}{v:Value}:∀ {P:List Str}{vs:List Value}{i:Nat}{m:Str→Option Value},P.Nodup→P[i]?=some x→vs[i]?=some v→kindOf x≠some .local →
 bindC kindOf (P.zip vs) m x=some v
 | [],_,_,_,_,h,_,_=>by simp at h
 | _::_,[],_,_,_,_,h,_=>by simp at h
 | p::P,w::vs,0,m,nd,h1,h2,hk=>by
   simp at h1 h2; subst h1; subst h2
   show bindC kindOf ((p,w)::P.zip vs) m p=_
   unfold bindC
   rw [au2 fun v hv=>(List.nodup_cons.mp nd).1 (List.of_mem_zip hv).1,if_neg hk]
   simp
 | p::P,w::vs,i+1,m,nd,h1,h2,hk=>by
   show bindC kindOf ((p,w)::P.zip vs) m x=_
   unfold bindC
   exact au4 (i:=i) (List.nodup_cons.mp nd).2 (by simpa using h1) (by simpa using h2) hk
def start (N:List Str) (vs:List V):St:=vs.map some++List.replicate (N.length - vs.length) none
def cxOf (CX:CXT) (P:Program) (w:World) (K:W.Frag) (mg:Str→Option Value) (base:Heap) (N:List Str) (qual:Str) (scope:Scope) (f:Addr) (cd:Value) (A:Around) (outer:List Env) (s:Shared) (H:Hp) (E:XK):Cx where
 prog:=P
 w:=w
 K:=K
 mg:=mg
 base:=base
 A:=A.deeper (envOfC qual scope s.heap.objs.size f cd)
 N:=N
 s₀:=s
 H₀:=H
 env:=envOfC qual scope s.heap.objs.size f cd
 outer:=outer
 stack:=envOfC qual scope s.heap.objs.size f cd::outer
 ex:=[]
 calm:=true
 fn:=fun _=>true
 pn:=[]
 xe:=fun e s'=>wpAny (model P w) (A.deeper (envOfC qual scope s.heap.objs.size f cd)) (leaving (envOfC qual scope s.heap.objs.size f cd) e) (fun _ s''=>CX outer H s E e s'') (fun e' s''=>CX outer H s E e' s'') s'
theorem b48 {sc:Scope}{n:Nat}{x:Str}(h:sc.names.lookup x=some .cell):∃ c,(cellsFrom n sc.names []).lookup x=some c:=by
 have q:=W.cellsFrom_some sc.names n [] (.inl h)
 exact Option.isSome_iff_exists.mp q
theorem bc7 {CX:CXT}{P:Program}{w:World}{K:W.Frag}{mg:Str→Option Value}{base:Heap}{N ps:List Str}{qual:Str}{scope:Scope}{f:Addr}{cd:Value}{A:Around}{outer:List Env}{s s1:Shared}{H:Hp}{E:XK}{us:List Value}{vs:List V}
 (S:FnScope N ps scope) (hd:A.handled=none) (e0:Env0 P w K mg base A outer s H) (hl:vs.length=ps.length) (r:Vals vs us)
 (x:InCallC s s.heap.objs.size (bindL (envOfC qual scope s.heap.objs.size f cd).kindOf (ps.zip us) fun _=>none) (cellsFrom (s.heap.objs.size+1) scope.names []) (bindC (envOfC qual scope s.heap.objs.size f cd).kindOf (ps.zip us) fun _=>none) s1) :
 Inv (cxOf CX P w K mg base N qual scope f cd A outer s H E) [] (start N vs) H s1:=by
 have hpl:ps.length≤N.length:=by have:=congrArg List.length S.pre; rw [List.length_take] at this; omega
 obtain ⟨h1,tk,rfl,hk⟩:=x.done
 have noA:∀ b:Addr,b∉(cxOf CX P w K mg base N qual scope f cd A outer s H E).ex:=fun b z=>absurd (show b∈([]:List Addr) from z) (by simp)
 refine ⟨⟨e0.mod,S.kind,rfl,rfl,Nat.le_refl _,fun y z c h1 h2=>?_,fun y hy=>?_,fun y c _ h=>?_,fun _=>hd,Around.frames_deeper e0.frames,.inr ⟨rfl,rfl⟩,fun b z=>absurd z (noA b),e0.bs,e0.bsz,fun b _ _=>noA b,fun b z=>absurd z (noA b),e0.funs,e0.frf⟩,
  rfl,e0.bare,Un.kept hk,⟨_,x.toInCall.ns,fun i y v h1 h2 h3=>?_⟩,fun y c h=>⟨_,x.cell y c h⟩,e0.hok.fresh (Nat.le_refl _),fun y c h=>?_,fun p hp=>absurd (show p∈([]:List (Addr×Obj)) from hp) (by simp),e0.hok.kept hk,?_⟩
 · exact name_of_addr x.apart (PySem.mem_of_lookup h1) (PySem.mem_of_lookup h2)
 · have hy:scope.names.lookup y=some .cell∨scope.names.lookup y=some .free:=hy
   rcases hy with hy | hy
   · exact b48 hy
   · exact absurd rfl (S.nofree _ (PySem.mem_of_lookup hy))
 · exact Nat.le_of_lt (x.above y c (PySem.mem_of_lookup h))
 · have hi:i<vs.length:=by
    unfold start at h2
    by_cases hi:i<vs.length
    · exact hi
    · rw [List.getElem?_append_right (by simpa using hi)] at h2
      rw [List.getElem?_replicate] at h2
      split at h2 <;> cases h2
   have ha:vs[i]?=some v:=by
    unfold start at h2
    rw [List.getElem?_append_left (by simpa using hi),gM] at h2
    cases e:vs[i]? with
    | none=>rw [e] at h2; cases h2
    | some a=>rw [e] at h2; cases h2; rfl
   obtain ⟨u,hu,rv⟩:=r.get ha
   have hp:ps[i]?=some y:=by
    rw [← S.pre,List.getElem?_take_of_lt (by omega)]; exact h1
   have ndP:ps.Nodup:=by rw [← S.pre]; exact S.nd.sublist (List.take_sublist _ _)
   refine ⟨u,rv,?_⟩
   rcases S.par y (gI hp) with k | k
   · exact .inl ⟨k,au3 ndP hp hu k⟩
   · obtain ⟨c,e⟩:=b48 (n:=s.heap.objs.size+1) k
     refine .inr ⟨.inl k,c,e,?_⟩
     have q:=x.cell y c e
     rw [au4 ndP hp hu (by show scope.names.lookup y≠_; rw [k]; decide)] at q
     exact q
 · exact e0.hok.fresh (Nat.le_of_lt (x.above y c (PySem.mem_of_lookup h)))
 · unfold start
   show _=N.length
   rw [List.length_append,gL,List.length_replicate]
   omega
theorem cf0 {CX:CXT}{P:Program}{w:World}{K:W.Frag}{mg:Str→Option Value}{base:Heap}{k:Nat}{f:Addr}{name qual:Str}{params:Arguments}{body:List Stmt}{scope:Scope}{dV kV doc pm cdv ct oc:Value}{an od:Option Addr}
 {osl:Array (Option Value)}{N ps:List Str}{sp:Sp}(lk:K.lookup f=some ⟨oc,od,.func (W.fnOf name qual params body scope dV kV doc pm an cdv ct),osl⟩) (hcd:W.codeIn K cdv qual=true) (S:FnScope N ps scope)
 (len:∀ vs H Q E,sp vs H Q E→vs.length=ps.length)
 (hbody:∀ (A:Around) (outer:List Env) (s:Shared) (H:Hp) (vs:List V) (Q:VK) (E:XK),Room k (A.deeper (envOfC qual scope s.heap.objs.size f cdv))→sp vs H Q E →
  ∃ t,PSs (cxOf CX P w K mg base N qual scope f cdv A outer s H E) body t∧t { nx:=fun _ H'=>Q .non H',rt:=Q } (start N vs) H) :
 FnOk P w K mg base CX (k+1) f (W.fnOf name qual params body scope dV kV doc pm an cdv ct) ps sp:=by
 refine ⟨len,fun A outer s H args us vs Q E hr e0 hb r hsp=>?_⟩
 have hl:=len _ _ _ _ hsp
 have KX:K.In s.heap:=e0.mod.kin.keeps fun b o e=>(e0.bs b o e).1
 have lim:s.heap.NoLimit:=e0.mod.nolimit.keeps fun b o e=>(e0.bs b o e).1
 have hkind:∀ y∈ps.zip us,scope.names.lookup y.1=some .local∨(scope.names.lookup y.1=some .cell∧((cellsFrom (s.heap.objs.size+1) scope.names []).lookup y.1).isSome=true):=fun ⟨n,v⟩ hy=>by
  rcases S.par n (List.of_mem_zip hy).1 with q | q
  · exact .inl q
  · exact .inr ⟨q,W.cellsFrom_some _ _ _ (.inl q)⟩
 refine codeAny_call_function hr.depth (KX _ _ lk) rfl S.co S.gen rfl (W.codeRec_of KX hcd) (hb _ _ _ _ ?_)
 refine wpAny_newFunctionEnv_cells S.kind hkind fun env he s1 x=>?_
 subst he
 refine ⟨lim.keeps x.toInCall.keep,codeAny_func ?_⟩
 obtain ⟨t,ht,hq⟩:=hbody A outer s H vs Q E (hr.deeper _) hsp
 have I:Inv (cxOf CX P w K mg base N qual scope f cdv A outer s H E) [] (start N vs) H s1:=bc7 S hr.hd e0 hl r x
 refine wpAny_mono (ht [] s1 (start N vs) H _ I hq) (fun fl s' hs=>?_) fun e s' hs=>hs
 have fin:∀ {σ':St} {H':Hp}{v:V}{u:Value},Inv (cxOf CX P w K mg base N qual scope f cdv A outer s H E) [] σ' H' s'→RelV v u→Q v H'→CE outer P w H s Q u s' :=
  fun {σ' H' v u} J rv q=>⟨v,H',J.os,J.bare,J.base,J.hok,rv,q⟩
 cases fl with
 | ret u =>
   obtain ⟨v,σ',H',J,rv,q⟩:=hs
   exact fin J rv q
 | next =>
   obtain ⟨σ',H',J,q⟩:=hs
   exact fin (v:=V.non) (u:=Value.none) J rfl q
 | brk =>
   obtain ⟨_,_,_,q⟩:=hs
   exact False.elim q
 | cont =>
   obtain ⟨_,_,_,q⟩:=hs
   exact False.elim q
section
variable {X:Cx}{x:Str}{p pos:Pos}{e:Expr}{es:List Expr}{t:TA}{id T:String}{r:List V→Hp→VK→Prop}
def tCB (r:List V→Hp→VK→Prop) (t:TA):TE:=fun σ H Q=>t σ H fun vs H1=>r vs H1 Q
theorem a59 (hc:CallR X (.builtin id) r) (hg:Gl X x) (hm:X.mg x=none) (hv:bootBuiltins x=some (.builtin id)) (ha:PA X (e::es) t) (hn:x≠"__name__":=by decide) (hdb:(x == ("__debug__":Str))=false:=by decide)
 (he:starEach (e::es) X.env=(false,eval e X.env)::starEach es X.env:=by rfl) (hpl:(backTo pos (starEach es X.env)).any (·.1)=false:=by rfl):PE X (.Call (.Name x p) (e::es) [] pos) (tCB r t):=by
 intro pins s σ H Q I h
 refine wpAny_Call_Name_kw (al3 I hg hm hv ?_ hn hdb)
 exact PyProof.Rows.callWith_builtin1 (thn (ha pos pins s σ H _ I h) fun us s1 ⟨vs,H1,I1,r1,q1⟩=>hc pins s1 σ H1 vs us Q I1 r1 q1) he hpl
theorem a63 (hc:CallR X (.type T) r) (hg:Gl X x) (hm:X.mg x=none) (hv:bootBuiltins x=some (.type T)) (ha:PA X (e::es) t) (hn:x≠"__name__":=by decide) (hdb:(x == ("__debug__":Str))=false:=by decide)
 (he:starEach (e::es) X.env=(false,eval e X.env)::starEach es X.env:=by rfl) (hpl:(backTo pos (starEach es X.env)).any (·.1)=false:=by rfl):PE X (.Call (.Name x p) (e::es) [] pos) (tCB r t):=by
 intro pins s σ H Q I h
 refine wpAny_Call_Name_kw (al3 I hg hm hv ?_ hn hdb)
 exact PyProof.Rows.callWith_type1 (thn (ha pos pins s σ H _ I h) fun us s1 ⟨vs,H1,I1,r1,q1⟩=>hc pins s1 σ H1 vs us Q I1 r1 q1) he hpl
end
end L2
namespace HT
open PySem PyProof.Rows
section
open PySem.SeqAt
open PySem.AutoSeq1 (wpAny_loadPart')
open PySem.MeetsSeq PySem.MeetsSeq2 PySem.MeetsSeq3
end
section
variable {prog:Program}{w:World}{A:Around}{E:Value→Shared→Prop}{s:Shared}
def sIx (n d:Nat):Option Int→Nat
 | none=>d
 | some v=>if v<0 then (v+(n:Int)).toNat else min v.toNat n
theorem sIx_none (n d:Nat):sIx n d none=d:=rfl
theorem sIx_nat (n d k:Nat):sIx n d (some (k:Int))=min k n:=by
 show (if (k:Int)<0 then ((k:Int)+(n:Int)).toNat else min (k:Int).toNat n)=min k n
 rw [if_neg (by omega),Int.toNat_natCast]
end
end HT
namespace L2
open PySem PySem.Spec PyProof.Rows
abbrev TO:=St→Hp→(Option Int→Hp→Prop)→Prop
def PO (X:Cx) (e:Option Expr) (t:TO):Prop :=
 ∀ (pins:List (Addr×Obj)) (s:Shared) (σ:St) (H:Hp) (Q:Option Int→Hp→Prop),Inv X pins σ H s→t σ H Q →
  wpAny (model X.prog X.w) X.A (evalPart e X.env) (fun u s'=>∃ o H',Inv X pins σ H' s'∧IsPart u o∧Q o H') X.xe s
def tNoPart:TO:=fun _ H Q=>Q none H
def tPart (t:TE):TO:=fun σ H Q=>t σ H fun x H1=>∃ i,x=.int i∧Q (some i) H1
theorem b79 {ns:List Int}:∀ {us:List Value},Vals (ns.map V.int) us→IntsAre us ns:=by
 induction ns with
 | nil=>intro us r; rw [List.map_nil] at r; cases r; exact .nil
 | cons n ns ih =>
   intro us r
   rw [List.map_cons] at r
   cases r with
   | cons r1 r2 =>
     obtain ⟨t,e⟩:=r1
     subst e
     exact .cons n t (ih r2)
section
variable {X:Cx}{e:Expr}{te:TE}{lo hi:Option Expr}{tl th:TO}{pos p2:Pos}
theorem ar4:PO X none tNoPart:=by
 intro pins s σ H Q I h
 rw [evalPart_none]
 exact wpAny_pure ⟨none,H,I,.none,h⟩
theorem ag6 (h:PE X e te):PO X (some e) (tPart te):=by
 intro pins s σ H Q I hw
 rw [evalPart_some]
 refine thn (h pins s σ H _ I hw) fun u s1 ⟨x,H1,I1,r1,q1⟩=>?_
 obtain ⟨i,rfl,q⟩:=q1
 obtain ⟨t,rfl⟩:=r1
 exact ⟨some i,H1,I1,.int i t,q⟩
def SlR (X:Cx) (r:V→Option Int→Option Int→Hp→VK→Prop):Prop :=
 ∀ (pins:List (Addr×Obj)) (s:Shared) (σ:St) (H:Hp) (x:V) (v vl vu:Value) (lo hi:Option Int) (sl:Addr) (Q:VK),Inv X pins σ H s→RelV x v→s.heap.IsSliceOf sl vl vu .none→IsPart vl lo→IsPart vu hi→r x lo hi H Q →
  ∃ T id,typeLookup (.type T) "__getitem__"=pure (some (.builtin id))∧s.TypeIs v T∧wpAny (model X.prog X.w) X.A (getItem v (.ref sl)) (EP X pins σ Q) X.xe s
def tSl (r:V→Option Int→Option Int→Hp→VK→Prop) (te:TE) (tl th:TO):TE:=fun σ H Q=>te σ H fun x H1=>tl σ H1 fun l H2=>th σ H2 fun u H3=>r x l u H3 Q
theorem ah7 {r:V→Option Int→Option Int→Hp→VK→Prop}(hr:SlR X r) (he:PE X e te) (hl:PO X lo tl) (hu:PO X hi th):PE X (.Subscript e (.Slice lo hi none p2) pos) (tSl r te tl th):=by
 intro pins s σ H Q I h
 refine Subscript_ (thn (he pins s σ H _ I h) fun v s1 ⟨x,H1,I1,r1,q1⟩=>?_)
 refine wpAny_Slice (thn (hl pins s1 σ H1 _ I1 q1) fun vl s2 ⟨l,H2,I2,pl,q2⟩=>thn (hu pins s2 σ H2 _ I2 q2) fun vu s3 ⟨u,H3,I3,pu,q3⟩=>?_)
 rw [evalPart_none]
 refine wpAny_pure ?_
 have I4:Inv X pins σ H3 { s3 with heap:=s3.heap.push { cls:=.type "slice",data:=.fields #[vl,vu,.none] } }:=I3.kept (t':=s3.toks) fun b ob q=>gP _ q
 obtain ⟨T,id,hT,ht,hg⟩:=hr pins { s3 with heap:=s3.heap.push { cls:=.type "slice",data:=.fields #[vl,vu,.none] } } σ H3 x v vl vu l u s3.heap.objs.size Q I4 r1 (Heap.IsSliceOf.new ..) pl pu q3
 show wpAny (model X.prog X.w) X.A (subscriptTail e (.Slice lo hi none p2) v (.ref s3.heap.objs.size)) (EP X pins σ Q) X.xe { s3 with heap:=s3.heap.push { cls:=.type "slice",data:=.fields #[vl,vu,.none] } }
 exact tail_any (ops:=[.ref s3.heap.objs.size,v]) ht hT hg (by with_unfolding_all rfl)
def cutV (xs:List V) (lo hi:Option Int):List V:=(xs.drop (HT.sIx xs.length 0 lo)).take (HT.sIx xs.length xs.length hi - HT.sIx xs.length 0 lo)
theorem ay4 (xs:List V) (lo hi:Option Int):(cutV xs lo hi).length≤xs.length:=by
 unfold cutV
 rw [List.length_take,List.length_drop]
 omega
end
def ixN (n:Nat) (i:Int):Option Nat:=if 0≤i then (if i<n then some i.toNat else none) else if -(n:Int)≤i then some (i+n).toNat else none
def atI {α:Type}(xs:List α) (i:Int):Option α:=(ixN xs.length i).bind fun j=>xs[j]?
theorem bc8 {n:Nat}{i:Int}{j:Nat}(h:ixN n i=some j):seqIndex? i n=some j∧j<n∧-(n:Int)≤i∧i<n:=by
 unfold ixN at h
 by_cases h0:0≤i
 · rw [if_pos h0] at h
   by_cases h1:i<n
   · rw [if_pos h1] at h
     have e:i.toNat=j:=Option.some.inj h
     exact ⟨by rw [seqIndex_of h0 h1,e],by omega,by omega,h1⟩
   · rw [if_neg h1] at h; cases h
 · rw [if_neg h0] at h
   by_cases h1:-(n:Int)≤i
   · rw [if_pos h1] at h
     have e:(i+n).toNat=j:=Option.some.inj h
     exact ⟨by rw [seqIndex_neg (by omega) h1,e],by omega,h1,by omega⟩
   · rw [if_neg h1] at h; cases h
theorem bc9 {α:Type}{xs:List α}{i:Int}{v:α}(h:atI xs i=some v):∃ j,seqIndex? i xs.length=some j∧xs[j]?=some v∧j<xs.length∧-(xs.length:Int)≤i∧i<xs.length:=by
 unfold atI at h
 cases e:ixN xs.length i with
 | none=>rw [e] at h; cases h
 | some j =>
   rw [e] at h
   obtain ⟨h1,h2,h3,h4⟩:=bc8 e
   exact ⟨j,h1,h,h2,h3,h4⟩
theorem a04 {α:Type}{xs:List α}{j:Nat}{v:α}(h:xs[j]?=some v):atI xs (j:Int)=some v:=by
 have hj:j<xs.length:=(gS h).1
 have e:ixN xs.length (j:Int)=some j:=by
  unfold ixN
  rw [if_pos (by omega),if_pos (by omega)]; simp
 unfold atI; rw [e]; exact h
theorem bm4 {α:Type}(xs:List α) (v:α):atI (xs++[v]) (-1)=some v:=by
 have hl:(xs++[v]).length=xs.length+1:=by simp
 have e:ixN (xs++[v]).length (-1)=some xs.length:=by
  unfold ixN
  rw [hl,if_neg (by decide),if_pos (by omega)]
  congr 1
  omega
 unfold atI
 rw [e]
 show (xs++[v])[xs.length]?=some v
 simp
def PlainIx (b:Expr):Prop:=∀ o i,subscripted b false o i=operate [o,i] (getItem o i)
def IxR (X:Cx) (r:R2):Prop :=
 ∀ (value slice:Expr) (pins:List (Addr×Obj)) (s:Shared) (σ:St) (H:Hp) (x y:V) (v u:Value) (Q:VK),Inv X pins σ H s→RelV x v→RelV y u→r x y H Q →
  subscripted slice false v u=operate [v,u] (getItem v u)→wpAny (model X.prog X.w) X.A (subscriptTail value slice v u) (EP X pins σ Q) X.xe s
def MtR (X:Cx) (id:String) (r:V→List V→Hp→VK→Prop):Prop :=
 ∀ (pins:List (Addr×Obj)) (s:Shared) (σ:St) (H:Hp) (x:V) (xs:List V) (v:Value) (us:List Value) (Q:VK),Inv X pins σ H s→RelV x v→Vals xs us→r x xs H Q →
  wpAny (model X.prog X.w) X.A (call (.builtin id) (v::us)) (EP X pins σ Q) X.xe s
section
variable {X:Cx}{a b:Expr}{ta tb:TE}{pos:Pos}
theorem a44 {r:R2}(hr:IxR X r) (ha:PE X a ta) (hb:PE X b tb) (hs:PlainIx b):PE X (.Subscript a b pos) (tOp r ta tb):=by
 intro pins s σ H Q I h
 exact Subscript_ (binT ha hb I h fun v u s2 x y H2 I2 rx ry q=>hr a b pins s2 σ H2 x y v u Q I2 rx ry q (hs _ _))
def rIxL (K:W.Frag):R2:=fun x y H Q=>∃ p xs i v,x=.ref p∧y=.int i∧SqL K H p xs∧atI xs i=some v∧Q v H
def rIxT (K:W.Frag):R2:=fun x y H Q=>∃ p xs i v,x=.ref p∧y=.int i∧SqT K H p xs∧atI xs i=some v∧Q v H
theorem bv9:IxR X (rIxL X.K):=by
 intro value slice pins s σ H x y v u Q I rx ry h hs
 obtain ⟨p,xs,i,z,rfl,rfl,hq,he,q⟩:=h
 cases rx
 obtain ⟨t,rfl⟩:=ry
 obtain ⟨its,r,pl,hz⟩:=I.list hq
 obtain ⟨j,h1,h2,h3,h4,h5⟩:=bc9 he
 obtain ⟨w,ew,rw'⟩:=r.get h2
 have hl:=r.length
 have hn:=au0
 have fin:EP X pins σ Q w s:=⟨z,H,I,rw',q⟩
 by_cases h0:0≤i
 · have hj:i.toNat=j:=by
    rw [seqIndex_of h0 h5] at h1
    exact Option.some.inj h1
   exact item_listR pl.isList h0 (by omega) (by rw [hj]; simpa using ew) fin hs
 · have hj:(i+(its.toArray.size:Int)).toNat=j:=by
    rw [seqIndex_neg (by omega) h4] at h1
    rw [List.size_toArray,←hl]
    exact Option.some.inj h1
   exact subscriptTail_builtinR (x:=w) pl.isList.typeIs slot_list_getitem.lookup
    (wpAny_getItem_list_neg (Q:=fun r s'=>r=w∧EP X pins σ Q r s') pl.isList (by omega) (by rw [List.size_toArray] <;> omega) (by omega) (by rw [hj]; simpa using ew) ⟨rfl,fin⟩) hs
theorem c64:IxR X (rIxT X.K):=by
 intro value slice pins s σ H x y v u Q I rx ry h hs
 obtain ⟨p,xs,i,z,rfl,rfl,hq,he,q⟩:=h
 cases rx
 obtain ⟨t,rfl⟩:=ry
 obtain ⟨its,r,pl,hz⟩:=I.tuple hq
 obtain ⟨j,h1,h2,h3,h4,h5⟩:=bc9 he
 obtain ⟨w,ew,rw'⟩:=r.get h2
 have hl:=r.length
 have hn:=au0
 have fin:EP X pins σ Q w s:=⟨z,H,I,rw',q⟩
 exact subscriptTail_builtinR (x:=w) pl.typeIs slot_tuple_getitem.lookup
  (getItem_tuple (j:=j) (Q:=fun r s'=>r=w∧EP X pins σ Q r s') pl (by omega) (by omega) (by rw [List.size_toArray,←hl]; exact h1) (by simpa using ew) ⟨rfl,fin⟩) hs
theorem b80 (its:List Value) (n j:Nat) (u:Value):Obj.mapSeq (·.setIfInBounds j u) { cls:=.type "list",data:=.seq its.toArray n }={ cls:=.type "list",data:=.seq (its.set j u).toArray n }:=by
 simp [Obj.mapSeq]
theorem Inv.lst {pins:List (Addr×Obj)}{σ:St} {H:Hp}{s:Shared}{p:Addr}{xs:List V}(I:Inv X pins σ H s) (h:H p=some (.lst xs)) :
 ∃ (its:List Value) (n:Nat),Vals xs its∧s.heap.get? p=some { cls:=.type "list",data:=.seq its.toArray n }∧xs.length≤sizeLine:=by
 obtain ⟨z,its,n,r,e⟩:=I.hok p _ h
 exact ⟨its,n,r,e,z⟩
theorem Inv.lstUpd {pins:List (Addr×Obj)}{σ:St} {H:Hp}{s:Shared}{p:Addr}{xs ys:List V}{its its':List Value}{n n':Nat}{f:Obj→Obj}(I:Inv X pins σ H s) (h:H p=some (.lst xs))
 (ho:s.heap.get? p=some { cls:=.type "list",data:=.seq its.toArray n }) (hf:f { cls:=.type "list",data:=.seq its.toArray n }={ cls:=.type "list",data:=.seq its'.toArray n' }) (r:Vals ys its') (hz:ys.length≤sizeLine) (t:Nat) :
 Inv X pins σ (upd H p (.lst ys)) { s with heap:=s.heap.update p f,toks:=t }:=by
 have e:(s.heap.update p f).get? p=some { cls:=.type "list",data:=.seq its'.toArray n' }:=by
  rw [Heap.get?_update_self f ho (by rw [hf] <;> rfl),hf]
 refine I.write (x:=p) (e:=p) (by rw [h]; trivial) (.inl rfl) (fun b u hb q=>(Heap.get?_update_other _ _ (Ne.symm hb)).trans q) ⟨_,e⟩ ?_
 exact ⟨hz,its',n',r,e⟩
def rSetL:V→V→V→Hp→(Hp→Prop)→Prop:=fun o i v H Q=>∃ p xs k j,o=.ref p∧i=.int k∧H p=some (.lst xs)∧ixN xs.length k=some j∧Q (upd H p (.lst (xs.set j v)))
theorem ar5:PSet X rSetL:=by
 intro pins s σ H o i v ov iv u Q I ro ri rv h
 obtain ⟨p,xs,k,j,rfl,rfl,hp,hj,q⟩:=h
 cases ro
 obtain ⟨t,rfl⟩:=ri
 obtain ⟨its,n,r,ho,hz⟩:=I.lst hp
 obtain ⟨h1,h2,h3,h4⟩:=bc8 hj
 have hl:=r.length
 have hn:=au0
 have I':Inv X pins σ (upd H p (.lst (xs.set j v))) { s with heap:=s.heap.update p (Obj.mapSeq (·.setIfInBounds j u)) } :=
  I.lstUpd hp ho (b80 its n j u) (r.set rv j) (by rw [List.length_set]; exact hz) s.toks
 by_cases h0:0≤k
 · have hk:k.toNat=j:=by
    rw [seqIndex_of h0 h4] at h1
    exact Option.some.inj h1
   exact W.ki_setAt ho h0 (by omega) (by rw [List.size_toArray,←hl]; exact h4) (by rw [hk]; exact ⟨_,I',q⟩)
 · have hk:(k+(its.toArray.size:Int)).toNat=j:=by
    rw [seqIndex_neg (by omega) h3] at h1
    rw [List.size_toArray,←hl]
    exact Option.some.inj h1
   exact W.ki_setBack ho (by omega) (by rw [List.size_toArray,←hl]; exact h3) (by omega) (by rw [hk]; exact ⟨_,I',q⟩)
theorem au5 (lo hi:Option Int) (n:Nat):(sliceBounds lo hi none n).1=((HT.sIx n 0 lo:Nat):Int)∧(sliceBounds lo hi none n).2.1=((HT.sIx n n hi:Nat):Int)∧(sliceBounds lo hi none n).2.2=1:=by
 refine ⟨?_,?_,rfl⟩
 · cases lo with
   | none=>simp [sliceBounds,HT.sIx]
   | some i =>
     simp only [sliceBounds,HT.sIx,Option.getD_none,show (1:Int) > 0 by decide,if_true]
     by_cases h:i<0
     · simp only [h,if_true] <;> omega
     · simp only [h,if_false] <;> omega
 · cases hi with
   | none=>simp [sliceBounds,HT.sIx]
   | some i =>
     simp only [sliceBounds,HT.sIx,Option.getD_none,show (1:Int) > 0 by decide,if_true]
     by_cases h:i<0
     · simp only [h,if_true] <;> omega
     · simp only [h,if_false] <;> omega
theorem ar6 (its:List Value) (lo hi:Option Int):slicePick its.toArray lo hi none=((its.drop (HT.sIx its.length 0 lo)).take (HT.sIx its.length its.length hi - HT.sIx its.length 0 lo)).toArray:=by
 obtain ⟨h1,h2,h3⟩:=au5 lo hi its.toArray.size
 unfold slicePick
 rw [h1,h2,h3]
 simp only [sliceRange_one,pick_run,List.size_toArray] <;> rfl
def rSlL (K:W.Frag):V→Option Int→Option Int→Hp→VK→Prop:=fun x lo hi H Q=>∃ a xs,x=.ref a∧SqL K H a xs∧∀ p,H p=none→Q (.ref p) (upd H p (.lst (cutV xs lo hi)))
theorem bw0:SlR X (rSlL X.K):=by
 intro pins s σ H x v vl vu lo hi sl Q I rx hs pl pu h
 obtain ⟨a,xs,rfl,hx,q⟩:=h
 cases rx
 obtain ⟨its,r,ht,hz⟩:=I.list hx
 have hlen:=r.length
 refine ⟨"list",_,slot_list_getitem.lookup,ht.isList.typeIs,?_⟩
 refine wpAny_getItem_list_slice ht.isList hs pl pu .none (by simp) ?_ (by rw [List.size_toArray] <;> omega)
 rw [ar6,←hlen]
 refine ⟨.ref s.heap.objs.size,_,I.laid (t':=s.toks) (o:=.lst (cutV xs lo hi)) (fun b ob q=>gP _ q) (Nat.le_refl _) ?_,rfl,q _ (I.hok.fresh (Nat.le_refl _))⟩
 exact ⟨Nat.le_trans (ay4 xs lo hi) hz,_,0,(r.drop (HT.sIx xs.length 0 lo)).take (HT.sIx xs.length xs.length hi - HT.sIx xs.length 0 lo),Heap.get?_push_size _ rfl⟩
theorem au6:CallR X (.type "list") (fun xs H Q=>∃ p ys,xs=[.ref p]∧(SqL X.K H p ys∨SqT X.K H p ys)∧∀ l,H l=none→Q (.ref l) (upd H l (.lst ys))):=by
 intro pins s σ H xs us Q I r h
 obtain ⟨p,ys,rfl,hq,q⟩:=h
 obtain ⟨u,rfl,rx⟩:=b74 r
 cases rx
 have fin:∀ (its:List Value),Vals ys its→ys.length≤sizeLine→∀ (h':Heap) (c':Nat),(∀ b o',s.heap.get? b=some o'→h'.get? b=some o') →
  h'.get? s.heap.objs.size=some { cls:=.type "list",dict:=none,data:=.seq its.toArray c',slots:=#[] }→EP X pins σ Q (.ref s.heap.objs.size) { s with heap:=h' }:=fun its r' hz h' c' kp e =>
  ⟨.ref s.heap.objs.size,_,I.laid (t':=s.toks) kp (Nat.le_refl _) (show ObjOk X.prog X.w _ h' _ (.lst ys) from ⟨hz,its,c',r',e⟩),rfl,q _ (I.hok.fresh (Nat.le_refl _))⟩
 rcases hq with hq | hq
 · obtain ⟨its,r',pl,hz⟩:=I.list hq
   have hlen:=r'.length
   obtain ⟨o,ho,hc,n,hd⟩:=pl.isList
   exact call_list_seq p (.inl rfl) ho hc hd (fun h' c' kp e=>fin its r' hz h' c' kp e) (by simp only [List.size_toArray] <;> omega)
 · obtain ⟨its,r',pl,hz⟩:=I.tuple hq
   have hlen:=r'.length
   obtain ⟨o,ho,hc,n,hd⟩:=pl
   exact call_list_seq p (.inr rfl) ho hc hd (fun h' c' kp e=>fin its r' hz h' c' kp e) (by simp only [List.size_toArray] <;> omega)
theorem ar7:CallR X (.type "tuple") (fun xs H Q=>∃ p ys,xs=[.ref p]∧((SqL X.K H p ys∧∀ l,H l=none→Q (.ref l) (upd H l (.tup ys)))∨(SqT X.K H p ys∧Q (.ref p) H))):=by
 intro pins s σ H xs us Q I r h
 obtain ⟨p,ys,rfl,h⟩:=h
 obtain ⟨u,rfl,rx⟩:=b74 r
 cases rx
 rcases h with ⟨hq,q⟩ | ⟨hq,q⟩
 · obtain ⟨its,r',pl,hz⟩:=I.list hq
   have hlen:=r'.length
   refine call_tuple_list pl.isList (fun h' kp=>?_) (by simp only [List.size_toArray] <;> omega)
   have I1:Inv X pins σ H { s with heap:=h' }:=I.kept (t':=s.toks) kp
   have I2:Inv X pins σ (upd H h'.objs.size (.tup ys)) { s with heap:=h'.push { cls:=.type "tuple",data:=.seq its.toArray } } :=
    I1.laid (t':=s.toks) (fun b o e=>gP _ e) (Nat.le_refl _) (show ObjOk X.prog X.w _ _ _ (.tup ys) from ⟨hz,its,r',IsTup.new _ _⟩)
   exact ⟨.ref h'.objs.size,_,I2,rfl,q _ (I1.hok.fresh (Nat.le_refl _))⟩
 · obtain ⟨its,r',pl,hz⟩:=I.tuple hq
   exact call_tuple_same pl ⟨.ref p,H,I,rfl,q⟩
def tyV (K:W.Frag) (T:String) (x:V) (H:Hp):Prop:=match x with
 | .str _=>T="str"
 | .int _=>T="int"
 | .ref p=>(T="list"∧∃ xs,SqL K H p xs)∨(T="tuple"∧∃ o,K.lookup p=some o∧o.cls=.type "tuple"∧o.dict=none) ∨
  (T="dict"∧((∃ kvs,H p=some (.dK kvs))∨∃ kvs,H p=some (.dT kvs)))∨(T="set"∧∃ S n,H p=some (.set S n))
 | _=>False
theorem bt6 {pins:List (Addr×Obj)}{σ:St} {H:Hp}{s:Shared}{T:String}{x:V}{v:Value}(I:Inv X pins σ H s) (r:RelV x v) (ty:tyV X.K T x H) :
 s.TypeIs v T∧∀ a,v=.ref a→∃ ob,s.heap.get? a=some ob∧ob.dict=none:=by
 cases x with
 | str z =>
   obtain ⟨t,rfl⟩:=r
   cases (show T="str" from ty)
   exact ⟨typeIs_str s z t,fun _ e=>nomatch e⟩
 | int i =>
   obtain ⟨t,rfl⟩:=r
   cases (show T="int" from ty)
   exact ⟨typeIs_int s i t,fun _ e=>nomatch e⟩
 | ref p =>
   cases r
   rcases ty with ⟨rfl,xs,hq⟩ | ⟨rfl,o,hk,hc,hd⟩ | ⟨rfl,hk⟩ | ⟨rfl,S,n,hk⟩
   · obtain ⟨its,_,pl,_⟩:=I.list hq
     refine ⟨pl.isList.typeIs,fun a e=>?_⟩
     cases e
     obtain ⟨o,n,e,c,hd,_⟩:=pl
     exact ⟨o,e,hd⟩
   · refine ⟨⟨o,I.kIn p o hk,hc⟩,fun a e=>?_⟩
     cases e
     exact ⟨o,I.kIn _ o hk,hd⟩
   · have z:∃ o,s.heap.get? p=some o∧o.ExactDict:=by
      rcases hk with ⟨kvs,hk⟩ | ⟨kvs,hk⟩
      · obtain ⟨_,_,_,_,o,_,_,e,ex,_⟩:=I.hok p _ hk
        exact ⟨o,e,ex⟩
      · obtain ⟨_,_,_,_,o,_,_,e,ex,_⟩:=I.hok p _ hk
        exact ⟨o,e,ex⟩
     obtain ⟨o,e,ex⟩:=z
     refine ⟨⟨o,e,ex.1⟩,fun a e2=>?_⟩
     cases e2
     exact ⟨o,e,ex.2.1⟩
   · obtain ⟨o,_,_,_,e,ex,_⟩:=I.hok p _ hk
     refine ⟨⟨o,e,ex.1⟩,fun a e2=>?_⟩
     cases e2
     exact ⟨o,e,ex.2.1⟩
 | _=>exact False.elim ty
def tBM0 (K:W.Frag) (T:String) (r:V→List V→Hp→VK→Prop) (to:TE):TE:=fun σ H Q=>to σ H fun x H1=>tyV K T x H1∧r x [] H1 Q
def tBM (K:W.Frag) (T:String) (r:V→List V→Hp→VK→Prop) (to:TE) (t:TA):TE:=fun σ H Q=>to σ H fun x H1=>tyV K T x H1∧t σ H1 fun xs H2=>r x xs H2 Q
variable {o e:Expr}{es:List Expr}{to:TE}{t:TA}{name:Str}{apos cpos:Pos}{T id:String}{r:V→List V→Hp→VK→Prop}
theorem c65 (pa:PlainAttrs T) (slot:Slot T name id) (hty:typeOf (.builtin id)=pure (.type "method_descriptor")) (hm:MtR X id r) (ho:PE X o to)
 (hbase:attributeBase o name X.env (eval o X.env)=eval o X.env:=by rfl) (hline:(apos.endLine == cpos.line)=true:=by rfl):PE X (.Call (.Attribute o name apos) [] [] cpos) (tBM0 X.K T r to):=by
 intro pins s σ H Q I h
 refine wpAny_Call_method0_late hbase hline (thn (ho pins s σ H _ I h) fun v s1 ⟨x,H1,I1,r1,ty,q1⟩=>?_)
 obtain ⟨h1,h2⟩:=bt6 I1 r1 ty
 exact ⟨T,id,pa,slot,hty,h1,h2,Calls.callWith_builtin rfl (PySem.evalArgs_none (hm pins s1 σ H1 x [] v [] Q I1 r1 .nil q1))⟩
theorem cf1 (pa:PlainAttrs T) (slot:Slot T name id) (hty:typeOf (.builtin id)=pure (.type "method_descriptor")) (hm:MtR X id r) (ho:PE X o to) (ha:PA X (e::es) t)
 (hbase:attributeBase o name X.env (eval o X.env)=eval o X.env:=by rfl)
 (hfew:((backTo cpos (starEach (e::es) X.env)).all (fun x=>!x.1) && (backToKw cpos (keywordEach [] X.env)).all (fun x=>x.1.isSome)
  && decide ((e::es).length+([]:List Keyword).length+(if ([]:List Keyword).isEmpty then 0 else 1)<30))=true:=by rfl)
 (hline:(apos.endLine == cpos.line)=true:=by rfl) (hs:starEach (e::es) X.env=(false,eval e X.env)::starEach es X.env:=by rfl) (hplain:(backTo cpos (starEach es X.env)).any (·.1)=false:=by rfl) :
 PE X (.Call (.Attribute o name apos) (e::es) [] cpos) (tBM X.K T r to t):=by
 intro pins s σ H Q I h
 refine wpAny_Call_method_late hbase hfew hline rfl (thn (ho pins s σ H _ I h) fun v s1 ⟨x,H1,I1,r1,ty,q1⟩=>?_)
 obtain ⟨h1,h2⟩:=bt6 I1 r1 ty
 refine ⟨T,id,pa,slot,hty,h1,h2,?_⟩
 have hA:=ha cpos pins s1 σ H1 _ I1 q1
 rw [hs] at hA ⊢
 refine Calls.callWith_builtin (by show (false || (backTo cpos (starEach es X.env)).any (·.1))=false; rw [hplain] <;> rfl) (Calls.evalArgs_plain ?_)
 exact thn hA fun us s2 ⟨vs,H2,I2,r2,q2⟩=>hm pins s2 σ H2 x vs v us Q I2 r1 r2 q2
/- xs.append(e),list.index on a module's tuple .. are MtR facts of 06m -/
end
def MtM (X:Cx) (id:String) (r:V→List V→Hp→VK→Prop):Prop :=
 ∀ (pins:List (Addr×Obj)) (s:Shared) (σ:St) (H:Hp) (x:V) (xs:List V) (v:Value) (us:List Value) (Q:VK),Inv X pins σ H s→RelV x v→Vals xs us→r x xs H Q →
  wpAny (model X.prog X.w) X.A (call (.builtin id) (v::us)) (EP X pins σ Q) X.xe s
theorem Vals.one:∀ {x:V}{us:List Value},Vals [x] us→∃ u,us=[u]∧RelV x u
 | _,_,.cons r .nil=>⟨_,rfl,r⟩
theorem Vals.zero:∀ {us:List Value},Vals [] us→us=[]
 | _,.nil=>rfl
theorem Vals.dropLast {xs:List V}{us:List Value}(h:Vals xs us):Vals xs.dropLast us.dropLast:=by
 induction h with
 | nil=>exact .nil
 | cons r t ih =>
   cases t with
   | nil=>exact .nil
   | cons q t'=>exact .cons r ih
theorem b81 {α:Type}(l:List α):l.eraseIdx (l.length - 1)=l.dropLast:=by
 induction l with
 | nil=>rfl
 | cons a r ih =>
   cases r with
   | nil=>rfl
   | cons b r =>
     have e:(a::b::r).length - 1=((b::r).length - 1)+1:=by
      have h1:(a::b::r).length=r.length+2:=rfl
      have h2:(b::r).length=r.length+1:=rfl
      omega
     rw [e,List.eraseIdx_cons_succ,ih]
     all_goals rfl
section
variable {X:Cx}{pins:List (Addr×Obj)}{σ:St} {H:Hp}{s:Shared}{l b:Addr}{xs ys zs:List V}
theorem Inv.lset {its its':List Value}{n:Nat}{f:Array Value→Array Value}{t':Nat}(I:Inv X pins σ H s) (hH:H l=some (.lst xs))
 (e:s.heap.get? l=some { cls:=.type "list",data:=.seq its.toArray n }) (hf:f its.toArray=its'.toArray) (hv:Vals ys its') (hz:ys.length≤sizeLine) :
 Inv X pins σ (upd H l (.lst ys)) { s with heap:=s.heap.update l (Obj.mapSeq f),toks:=t' }:=by
 have q:=PySem.IsL.update e f
 rw [hf] at q
 refine I.write (x:=l) (e:=l) (by rw [hH]; exact trivial) (.inl rfl) (fun b' u hb hu=>(Heap.get?_update_other s.heap (Obj.mapSeq f) (Ne.symm hb)).trans hu) ⟨_,q⟩ ?_
 exact ⟨hz,its',_,hv,q⟩
theorem Inv.lnew {its:List Value}{t':Nat}(I:Inv X pins σ H s) (hv:Vals ys its) (hz:ys.length≤sizeLine) :
 Inv X pins σ (upd H s.heap.objs.size (.lst ys)) { s with heap:=s.heap.push { cls:=.type "list",data:=.seq its.toArray },toks:=t' } :=
 I.laid (fun _ _ q=>gP _ q) (Nat.le_refl _) ⟨hz,its,0,hv,Heap.get?_push_size _ rfl⟩
theorem Inv.fresh (I:Inv X pins σ H s):H s.heap.objs.size=none:=I.hok.fresh (Nat.le_refl _)
theorem Inv.lstM (I:Inv X pins σ H s) (hH:H l=some (.lst xs)):xs.length≤sizeLine∧∃ (its:List Value) (n:Nat),Vals xs its∧xs.length=its.length∧s.heap.get? l=some { cls:=.type "list",data:=.seq its.toArray n }:=by
 obtain ⟨z,its,n,r,e⟩:=I.hok l _ hH
 exact ⟨z,its,n,r,r.length,e⟩
theorem notLongL {n:Nat}(h:n≤sizeLine):Builtin.List.listTooLong n=false:=by
 unfold Builtin.List.listTooLong
 exact decide_eq_false (by omega)
end
section
variable {X:Cx}
def rAppend:V→List V→Hp→VK→Prop:=fun x vs H Q=>∃ l xs y,x=.ref l∧vs=[y]∧H l=some (.lst xs)∧xs.length<sizeLine∧Q .non (upd H l (.lst (xs++[y])))
theorem ad2:MtM X "list.append" rAppend:=by
 intro pins s σ H x vs v us Q I rx rv h
 obtain ⟨l,xs,y,rfl,rfl,hH,hz,q⟩:=h
 cases rx
 obtain ⟨u,rfl,ru⟩:=rv.one
 obtain ⟨z,its,n,r,hl,e⟩:=I.lstM hH
 refine call_meets F.slot_list_append ⟨_,e,rfl⟩ F.entry_list_append (F.args_list_append_2 _ _) (PySem.list_append l its.toArray n u (by rw [List.size_toArray]; omega)) ⟨e,?_⟩
 refine ⟨.non,_,I.lset (its':=its++[u]) hH e (by simp) (r.append (.cons ru .nil)) ?_,rfl,q⟩
 rw [List.length_append,List.length_singleton]
 omega
def rExtend:V→List V→Hp→VK→Prop:=fun x vs H Q=>∃ l b xs zs,x=.ref l∧vs=[.ref b]∧H l=some (.lst xs)∧H b=some (.lst zs)∧xs.length+zs.length≤sizeLine∧Q .non (upd H l (.lst (xs++zs)))
theorem aj0:MtM X "list.extend" rExtend:=by
 intro pins s σ H x vs v us Q I rx rv h
 obtain ⟨l,b,xs,zs,rfl,rfl,hH,hB,hz,q⟩:=h
 cases rx
 obtain ⟨u,rfl,ru⟩:=rv.one
 cases ru
 obtain ⟨z,its,n,r,hl,e⟩:=I.lstM hH
 obtain ⟨z2,its2,n2,r2,hl2,e2⟩:=I.lstM hB
 have hsz:its.toArray.size+its2.toArray.size≤sizeLine:=by rw [List.size_toArray,List.size_toArray]; omega
 have hlong:¬ (!its.toArray.isEmpty && Builtin.List.listTooLong (its.toArray.size+its2.toArray.size))=true:=by
  rw [notLongL hsz,Bool.and_false]
  exact Bool.false_ne_true
 refine call_meets F.slot_list_extend ⟨_,e,rfl⟩ F.entry_list_extend (F.args_list_extend_2 _ _)
  (AutoSeq1.list_extend_list_list_0 l its.toArray n b its2.toArray n2 hlong (by rw [List.size_toArray]; omega) (by omega)) ⟨e,e2,?_⟩
 refine ⟨.non,_,I.lset (its':=its++its2) hH e (by simp) (r.append r2) ?_,rfl,q⟩
 rw [List.length_append]
 omega
def rPop:V→List V→Hp→VK→Prop:=fun x vs H Q=>∃ l xs y,x=.ref l∧vs=[]∧H l=some (.lst xs)∧xs[xs.length - 1]?=some y∧Q y (upd H l (.lst xs.dropLast))
theorem c66:MtM X "list.pop" rPop:=by
 intro pins s σ H x vs v us Q I rx rv h
 obtain ⟨l,xs,y,rfl,rfl,hH,hy,q⟩:=h
 cases rx
 have hus:=rv.zero
 subst hus
 obtain ⟨z,its,n,r,hl,e⟩:=I.lstM hH
 obtain ⟨u,hu,ru⟩:=r.get hy
 have hy':its.toArray[its.toArray.size - 1]?=some u:=by
  show its.toArray[its.length - 1]?=some u
  rw [← Array.getElem?_toList,←hl]
  exact hu
 refine call_meets F.slot_list_pop ⟨_,e,rfl⟩ F.entry_list_pop (F.args_list_pop_1 _) (MeetsSeq.list_pop_last l its.toArray n u hy' (by rw [List.size_toArray]; omega)) ⟨e,?_⟩
 refine ⟨y,_,I.lset (its':=its.dropLast) hH e ?_ r.dropLast ?_,ru,q⟩
 · show its.toArray.eraseIdxIfInBounds (its.toArray.size - 1)=its.dropLast.toArray
   rw [List.size_toArray,List.eraseIdxIfInBounds_toArray,b81]
 · rw [List.length_dropLast]
   omega
def rCat:R2:=fun x y H Q=>∃ l b xs zs,x=.ref l∧y=.ref b∧H l=some (.lst xs)∧H b=some (.lst zs)∧xs.length+zs.length≤sizeLine∧∀ p,H p=none→Q (.ref p) (upd H p (.lst (xs++zs)))
theorem c67:OpR X (binaryOp .Add) rCat:=by
 intro pins s σ H x y v u Q I rx ry h
 obtain ⟨l,b,xs,zs,rfl,rfl,hH,hB,hz,q⟩:=h
 cases rx
 cases ry
 obtain ⟨z,its,n,r,hl,e⟩:=I.lstM hH
 obtain ⟨z2,its2,n2,r2,hl2,e2⟩:=I.lstM hB
 refine PySem.P.add_list e e2 ?_ (by rw [List.size_toArray,List.size_toArray]; omega)
 have ea:its.toArray++its2.toArray=(its++its2).toArray:=by simp
 rw [ea]
 exact ⟨.ref _,_,I.lnew (t':=s.toks) (r.append r2) (by rw [List.length_append]; omega),rfl,q _ I.fresh⟩
end
section
variable {prog:Program}{w:World}{A:Around}{E:Value→Shared→Prop}{s:Shared}
set_option maxRecDepth 100000 in
end
section
variable {X:Cx}
end
end L2
namespace Att
open PySem PySem.W PySem.Calls PyProof.Rows
theorem am2 {P:Params}{h:Heap}:∀ (ns:List Int) (vs:List Value),WellAll P h vs (ns.map WData.int)→IntsAre vs ns:=by
 intro ns
 induction ns with
 | nil =>
   intro vs w
   rw [List.map_nil] at w
   cases w
   exact .nil
 | cons n ns ih =>
   intro vs w
   rw [List.map_cons] at w
   cases w with
   | cons a b =>
     cases a
     exact .cons _ _ (ih _ b)
theorem bd0 {l:OpenLaw}{n:Nat}(hn:l.most=some n) {P:Params}{h:Heap}{args:List WData}{vals:List Value}
 (hpre:l.row.toRowW.claim.pre args=true) (hwl:WellAll P h vals args) :
 ∃ a vs ns,vals=[Value.ref a]∧args=[WData.list (ns.map WData.int)]∧h.get? a=some { cls:=.type "list",data:=.seq vs.toArray }∧IntsAre vs ns∧ns.length≤n:=by
 have hsh:WShape.hasAll [] args [.list .int]=true:=(pre_splitW hpre).1
 have hc:l.pre.holds [] { args:=args }=true:=(pre_splitW hpre).2
 obtain ⟨d,r,rfl,h1,h2⟩:=hasAllW_cons hsh
 obtain rfl:=hasAllW_nil h2
 obtain ⟨xs,rfl,h3⟩:=hasW_list h1
 obtain ⟨ns,rfl⟩:=items_int h3
 have hlen:ns.length≤n:=by
  unfold OpenLaw.pre at hc
  have h4:(WTm.not (.lt (.lit (.int (n:Int))) (.len (.arg 0)))).holds [] { args:=[.list (ns.map .int)] }=true:=by
   have h4:=(holds_andW hc).1
   rw [hn] at h4
   exact h4
  have h5:=condW_of h4 (w_not (w_lt w_lit (w_len_list (w_arg rfl))))
  rw [List.length_map] at h5
  refine Nat.le_of_not_lt fun q=>?_
  have q':(n:Int)<((ns.length:Nat):Int):=by omega
  first
   | (rw [decide_eq_true q'] at h5; exact absurd h5 (by decide))
   | (simp at h5; omega)
 cases hwl with
 | cons w1 w2 =>
   cases w2
   cases w1 with
   | list ho hall=>exact ⟨_,_,ns,rfl,rfl,ho,am2 ns _ hall,hlen⟩
theorem bd1 (l:OpenLaw) (args:List WData):l.row.toRowW.claim.post args (.bool true) args=true :=
 postW_of (r:=l.row.toRowW) (X:=(true == true))
  (show WShape.has [] (.bool true) .bool=true by first | rfl | decide | simp [WShape.has,WShape.arms,WShape.armsAll])
  (show (WTm.eq .res (.lit (.bool true))).value [] { args:=args,res:=some (.bool true),after:=args }=some (.bool (true == true)) from w_eq_bool (w_res rfl) w_lit) rfl
theorem attach_call {l:OpenLaw}{n:Nat}{q:Program}{loose:List Str}{XP:(Str→Option Value)→Heap→Prop}{YP:World→Heap→Prop}{d:DefRec}
 (hn:l.most=some n) (hdf:d.params.defaults=[])
 (call:∀ (w:World) (s₀ s₁:Shared) (mg mb:Str→Option Value) (fa:Addr) (o:Obj) (pm cd doc:Value) (a:Addr) (vs:List Value) (ns:List Int),
  Ground q loose [] XP w s₀ mg mb s₁.heap→YP w s₁.heap →
  s₁.heap.get? fa=some o→o.data=.func (docDef d.name d.params d.body d.scope pm cd doc)→s₁.heap.CodeRec cd d.name→mg d.name=some (.ref fa) →
  s₁.heap.get? a=some { cls:=.type "list",data:=.seq vs.toArray }→IntsAre vs ns→ns.length≤n→s₁.gens=#[] →
  codeAny (model l.prog w) callerA (.call (.ref fa) ⟨[.ref a],[]⟩) (fun r s'=>r=.ok (.ret (.bool true))∧OldK s₁.heap s'.heap∧s'.os=s₁.os∧AllBare s'.gens) s₁) :
 WalkO q loose XP YP l.row.toRowW d [] (fun f vs=>PySem.call f vs):=by
 intro w s₀ s₁ mg mb G Y fa o pm cd doc dV kV ho hd hcd hD hmg hg args vals as hpre hlay hrd hwl hlo
 obtain rfl:dV=.none:=Dflts.none hD hdf
 obtain rfl:kV=.none:=Dflts.noKw hD
 obtain ⟨a,vs,ns,rfl,rfl,hobj,hints,hlen⟩:=bd0 hn hpre hwl
 refine enter_call (codeAny_mono (call w s₀ s₁ mg mb fa o pm cd doc a vs ns G Y ho (fd_plain hd) hcd hmg hobj hints hlen hg) fun r s' hq=>?_)
 obtain ⟨rfl,h2,h3,h4⟩:=hq
 exact ⟨.inl ⟨.bool true,.bool true,[],rfl,fun _=>rfl,.bool true,bd1 l _,fun _=>⟨List.Pairwise.nil,fun _ hm=>(nomatch hm)⟩⟩,h2,h3,h4⟩
section
variable {prog:Program}{w:World}{A:Around}{E:Value→Shared→Prop}{s:Shared}{K:Frag}
end
end Att
namespace L2
open PySem PySem.Spec PyProof.Rows
theorem au7:∀ {vs:List Value}{ns:List Int},IntsAre vs ns→Vals (ns.map V.int) vs
 | _,_,.nil=>.nil
 | _,_,.cons n t h=>.cons ⟨t,rfl⟩ (au7 h)
def Only (H:Hp):Prop:=∀ b,H b=none∨∃ o xs,H b=some (.frz o (.lst xs))
theorem bm5 {P:Program}{w:World}{K:W.Frag}{mg mb:Str→Option Value}{CX:CXT}{k:Nat}{fa a:Addr}{fd:FuncData}{x:Str}{sp:Sp}{s₁:Shared}{vs:List Value}{ns:List Int}
 (KX:K.In s₁.heap) (hns:s₁.heap.Ns mainGlobals mg) (hb:s₁.heap.Ns builtinsNs mb) (hbb:∀ x:Str,x≠"__name__"→mb x=bootBuiltins x) (hlim:s₁.heap.NoLimit) (hg:s₁.gens=#[])
 (ha:s₁.heap.get? a=some { cls:=.type "list",data:=.seq vs.toArray }) (hi:IntsAre vs ns) (hl:ns.length≤sizeLine) (hr:Room k callerA)
 (F:∀ base:Heap,K.In base→base.Ns mainGlobals mg→FnOk P w K mg base CX k fa fd [x] sp) (hbind:∀ (s:Shared) (u:Value),BindsTo s fd ⟨[u],[]⟩ [(x,u)])
 (hsp:∀ H:Hp,Only H→SqL K H a (ns.map V.int)→sp [.ref a] H (fun v _=>v=.bl true) fun _ _ _=>False)
 (hCX:∀ H e s',CX [] H s₁ (fun _ _ _=>False) e s'→False) :
 codeAny (model P w) callerA (.call (.ref fa) ⟨[.ref a],[]⟩) (fun r s'=>r=.ok (.ret (.bool true))∧OldK s₁.heap s'.heap∧s'.os=s₁.os∧AllBare s'.gens) s₁:=by
 have rv:=au7 hi
 have lenV:=hi.length
 have core:∀ H:Hp,Only H→SqL K H a (ns.map V.int)→HOk P w H s₁.heap→(∀ b,H b≠none→b=a)→(H a≠none→K.lookup a=none) →
  codeAny (model P w) callerA (.call (.ref fa) ⟨[.ref a],[]⟩) (fun r s'=>r=.ok (.ret (.bool true))∧OldK s₁.heap s'.heap∧s'.os=s₁.os∧AllBare s'.gens) s₁:=by
  intro H hO hS hok hA hK
  have base_of:∀ {b:Addr}{o:Obj},s₁.heap.get? b=some o→H b=none→(hidT s₁.heap H).get? b=some o:=fun e n=>bl4 e n
  have noA:∀ {b:Addr}{o:Obj}{es:Array DictEntry}{ep:Nat},s₁.heap.get? b=some o→o.data=.dict es ep→H b=none:=fun {b o es ep} e d=>by
   cases q:H b with
   | none=>rfl
   | some u =>
     have e':b=a:=hA b (by rw [q]; simp)
     subst e'
     rw [ha] at e; cases e
     have d':Data.seq vs.toArray _=Data.dict es ep:=d
     cases d'
  have nsK:∀ {b:Addr}{m:Str→Option Value},s₁.heap.Ns b m→(hidT s₁.heap H).Ns b m:=fun {b m} ⟨o,es,ep,e,d,r⟩=>⟨o,es,ep,base_of e (noA e d),d,r⟩
  have hKb:K.In (hidT s₁.heap H):=fun b o e=>base_of (KX b o e) (by
   cases q:H b with
   | none=>rfl
   | some u =>
     have e':b=a:=hA b (by rw [q]; simp)
     subst e'
     rw [hK (by rw [q]; simp)] at e; cases e)
  have hM:Mod K mg (hidT s₁.heap H):=⟨hKb,nsK hns,⟨mb,nsK hb,hbb⟩,let ⟨mc,h1,h2⟩:=hlim; ⟨mc,nsK h1,h2⟩⟩
  have e0:Env0 P w K mg (hidT s₁.heap H) callerA [] s₁ H:=⟨rfl,hM,fun b o e=>bv1 e,Nat.le_of_eq (ba7 _ _),trivial,fun b hb=>absurd (show b∈([]:List Addr) from hb) (by simp),hok,.of_eq hg⟩
  refine codeAny_mono ((F _ hKb (nsK hns)).run callerA [] s₁ H ⟨[.ref a],[]⟩ [.ref a] [.ref a] _ _ hr e0 (hbind s₁ (.ref a)) (.cons rfl .nil) (hsp H hO hS)) fun r s' h=>?_
  cases r with
  | error e=>exact (hCX H e s' h).elim
  | ok fl =>
    cases fl with
    | next=>exact False.elim h
    | brk=>exact False.elim h
    | cont=>exact False.elim h
    | ret u =>
      obtain ⟨v,H',os,bare,un,hok',r',q⟩:=h
      have q':v=.bl true:=q
      subst q'
      obtain rfl:u=Value.bool true:=r'
      refine ⟨rfl,OldK.of_keep fun b o e=>?_,os,bare⟩
      cases q:H b with
      | none=>exact un.keep b o e q (by intro z; exact absurd (show b∈([]:List Addr) from z) (by simp)) (by simp)
      | some u =>
        rcases hO b with z | ⟨ob,xs,z⟩
        · rw [q] at z; cases z
        · have z2:=un.frzs b ob _ z
          obtain ⟨e1,_⟩:=hok b _ z
          obtain ⟨e2,_⟩:=hok' b _ z2
          rw [e] at e1; cases e1
          exact e2
 cases hk:K.lookup a with
 | some o =>
   have e:=KX a o hk
   rw [ha] at e
   cases e
   refine core (fun _=>none) (fun _=>.inl rfl) (.inr ⟨_,vs.toArray,_,hk,rfl,rfl,rfl,by rw [List.size_toArray,lenV]; exact hl,by simpa using rv⟩) (fun b u z=>by have z':(none:Option HO)=some u:=z; cases z') (fun b z=>absurd rfl z) fun z=>absurd rfl z
 | none =>
   refine core (fun b=>if b=a then some (.frz { cls:=.type "list",data:=.seq vs.toArray } (.lst (ns.map V.int))) else none) (fun b=>?_) (.inl (.inr ⟨{ cls:=.type "list",data:=.seq vs.toArray },if_pos rfl⟩)) (fun b u z=>?_) (fun b z=>?_) fun _=>hk
   · by_cases hb:b=a
     · exact .inr ⟨_,_,if_pos hb⟩
     · exact .inl (if_neg hb)
   · by_cases hb:b=a
     · have z':=(if_pos hb).symm.trans z
       cases z'
       subst hb
       exact ⟨ha,by rw [gL]; exact hl,vs,_,rv,ha⟩
     · have z':=(if_neg hb).symm.trans z
       cases z'
   · by_cases hb:b=a
     · exact hb
     · exact absurd (if_neg hb) z
theorem walk_of {l:W.OpenLaw}{n k:Nat}{q:Program}{loose:List Str}{XP:(Str→Option Value)→Heap→Prop}{YP:World→Heap→Prop}{d:DefRec}{K:Params→W.Frag}{CX:World→CXT}{sp:World→Sp}{x:Str}
 (hn:l.most=some n) (hn2:n≤sizeLine) (hdf:d.params.defaults=[]) (hr:Room k callerA)
 (hY:∀ (w:World) (h:Heap),YP w h→(K w.params).In h)
 (F:∀ (w:World) (mg:Str→Option Value) (fa:Addr) (h:Heap),(K w.params).In h→h.Ns mainGlobals mg→mg d.name=some (.ref fa) →
  ∃ fd:FuncData,(∀ (s:Shared) (u:Value),BindsTo s fd ⟨[u],[]⟩ [(x,u)]) ∧
   ∀ base:Heap,(K w.params).In base→base.Ns mainGlobals mg→FnOk l.prog w (K w.params) mg base (CX w) k fa fd [x] (sp w))
 (hsp:∀ (w:World) (H:Hp) (a:Addr) (ns:List Int),ns.length≤n→Only H→SqL (K w.params) H a (ns.map V.int)→sp w [.ref a] H (fun v _=>v=.bl true) fun _ _ _=>False)
 (hCX:∀ (w:World) (H:Hp) (s:Shared) (e:Value) (s':Shared),CX w [] H s (fun _ _ _=>False) e s'→False) :
 W.WalkO q loose XP YP l.row.toRowW d [] (fun f vs=>PySem.call f vs):=by
 refine Att.attach_call hn hdf fun w s₀ s₁ mg mb fa o pm cd doc a vs ns G Y ho hd hcd hmg hobj hints hlen hg=>?_
 have KX:=hY w _ Y
 obtain ⟨fd,hb,hF⟩:=F w mg fa _ KX G.T.g hmg
 exact bm5 KX G.T.g G.T.b G.T.builtins G.T.nolimit hg hobj hints (Nat.le_trans hlen hn2) hr hF hb (fun H hO hS=>hsp w H a ns hlen hO hS) fun H e s'=>hCX w H s₁ e s'
def inClass (s:Stmt) (j:Nat):Stmt:=match s with
 | .ClassDef _ _ _ body _ _ _ _ _ _ _=>body.getD j (.Pass ⟨0,0,0,0⟩)
 | _=>.Pass ⟨0,0,0,0⟩
def defArgs (s:Stmt):Arguments:=match s with
 | .FunctionDef _ a _ _ _ _ _ _ _ _=>a
 | _=>{ posonlyargs:=[],args:=[],vararg:=none,kwonlyargs:=[],kw_defaults:=[],kwarg:=none,defaults:=[] }
def defBody (s:Stmt):List Stmt:=match s with
 | .FunctionDef _ _ b _ _ _ _ _ _ _=>b
 | _=>[]
def defScope (s:Stmt):Scope:=match s with
 | .FunctionDef _ _ _ _ _ _ sc _ _ _=>sc
 | _=>{ kind:=.function,names:=[],isGenerator:=false,isCoroutine:=false }
abbrev CX0:CXT:=fun _ _ _ _ _ _=>False
abbrev E0:XK:=fun _ _ _=>False
theorem a55 {X:Cx}:Passes CX0 X E0:=fun _ _ _ _ _ _ _ h=>h.elim
structure Fun (K:W.Frag) (x qual:Str) (st:Stmt) (f:Addr) (fd:FuncData):Prop where
 ex:∃ (oc:Value) (od:Option Addr) (kV doc pm:Value) (an:Option Addr) (cdv ct:Value) (osl:Array (Option Value)),
  fd=W.fnOf x qual (defArgs st) (defBody st) (defScope st) .none kV doc pm an cdv ct∧K.lookup f=some ⟨oc,od,.func fd,osl⟩∧W.codeIn K cdv qual=true
 kp:W.keepIn K (.ref f)=true
section
variable {P:Program}{w:World}{K:W.Frag}{mg:Str→Option Value}{base:Heap}
theorem Fun.ok {x qual:Str}{st:Stmt}{f:Addr}{fd:FuncData}{N ps:List Str}{k:Nat}{sp:Sp}(F:Fun K x qual st f fd) (S:FnScope N ps (defScope st)) (len:∀ vs H Q E,sp vs H Q E→vs.length=ps.length)
 (hbody:∀ (cdv:Value) (A:Around) (outer:List Env) (s:Shared) (H:Hp) (vs:List V) (Q:VK) (E:XK),Room k (A.deeper (envOfC qual (defScope st) s.heap.objs.size f cdv))→sp vs H Q E →
  ∃ t,PSs (cxOf CX0 P w K mg base N qual (defScope st) f cdv A outer s H E).nox (defBody st) t∧t { nx:=fun _ H'=>Q .non H',rt:=Q } (start N vs) H):FnOk P w K mg base CX0 (k+1) f fd ps sp:=by
 obtain ⟨oc,od,kV,doc,pm,an,cdv,ct,osl,rfl,lk,hcd⟩:=F.ex
 refine cf0 lk hcd S len fun A outer s H vs Q E hr hsp=>?_
 obtain ⟨t,h,q⟩:=hbody cdv A outer s H vs Q E hr hsp
 exact ⟨t,h.nox,q⟩
theorem Fun.binds {x qual:Str}{st:Stmt}{f:Addr}{fd:FuncData}{ps:List Str}(F:Fun K x qual st f fd)
 (h:∀ (kV doc pm:Value) (an:Option Addr) (cdv ct:Value) (us:List Value),us.length=ps.length→bindArgs (W.fnOf x qual (defArgs st) (defBody st) (defScope st) .none kV doc pm an cdv ct) ⟨us,[]⟩=pure (ps.zip us)):Binds K fd ps []:=by
 obtain ⟨oc,od,kV,doc,pm,an,cdv,ct,osl,rfl,lk,hcd⟩:=F.ex
 exact .all (h kV doc pm an cdv ct)
theorem a68 {x qual:Str}{st:Stmt}{f:Addr}{oc:Value}{od an:Option Addr}{osl:Array (Option Value)}{kV doc pm cdv ct:Value}(l:K.lookup f=some ⟨oc,od,.func (W.fnOf x qual (defArgs st) (defBody st) (defScope st) .none kV doc pm an cdv ct),osl⟩)
 (c:W.codeIn K cdv qual=true) (k:W.keepIn K (.ref f)=true):Fun K x qual st f (W.fnOf x qual (defArgs st) (defBody st) (defScope st) .none kV doc pm an cdv ct):=⟨⟨oc,od,kV,doc,pm,an,cdv,ct,osl,rfl,l,c⟩,k⟩
end
theorem c68 {A:Around}{k:Nat}(hr:Room k A):A.units+1<cLine:=Nat.lt_of_le_of_lt (Nat.add_le_add_left (by decide:1≤64) _) hr.units
section
variable {X:Cx}
theorem pv (i:Nat) {x:Str}{pos:Pos}(hN:X.N[i]?=some x:=by rfl) (hv:Vis X.env.scope x:=by first | exact Or.inl rfl | exact Or.inr (Or.inl rfl) | exact Or.inr (Or.inr rfl)) (hd:(x == ("__debug__":Str))=false:=by decide)
 (hcd:(x == ("__classdict__":Str))=false:=by decide):PE X (.Name x pos) (tVar i):=c49 hN hv hd hcd
end
theorem iteF {A B:Prop}(h:B):if false=true then A else B:=by
 rw [if_neg Bool.false_ne_true]
 exact h
theorem iteT {A B:Prop}(h:A):if true=true then A else B:=by
 rw [if_pos rfl]
 exact h
theorem ite2 {c A B:Prop} [Decidable c] (h1:c→A) (h2:¬ c→B):if c then A else B:=by
 by_cases h:c
 · rw [if_pos h]
   exact h1 h
 · rw [if_neg h]
   exact h2 h
def Same (H H':Hp):Prop:=∀ b o,H b=some o→H' b=some o
theorem Same.refl (H:Hp):Same H H:=fun _ _ h=>h
theorem Same.trans {H H1 H2:Hp}(a:Same H H1) (b:Same H1 H2):Same H H2:=fun c o h=>b c o (a c o h)
theorem Same.free {H H':Hp}(e:Same H H') {l:Addr}(h:H' l=Option.none):H l=Option.none:=by
 cases q:H l with
 | none=>rfl
 | some o =>
   rw [e l o q] at h
   cases h
theorem Same.seq {K:W.Frag}{H H':Hp}{a:Addr}{xs:List V}(e:Same H H') (h:SqL K H a xs):SqL K H' a xs:=by
 rcases h with (h | ⟨o,h⟩) | h
 · exact .inl (.inl (e _ _ h))
 · exact .inl (.inr ⟨o,e _ _ h⟩)
 · exact .inr h
end L2
namespace K76
open PySem L2
def top (i:Nat):Stmt:=PySem.Challenge.pw_callmill_k76_whole_paper_of_a_pack.main.body.getD i (.Pass ⟨0,0,0,0⟩)
def view:Program:={ PySem.Challenge.pw_callmill_k76_whole_paper_of_a_pack with main:={ PySem.Challenge.pw_callmill_k76_whole_paper_of_a_pack.main with body:=[top 1,top 2,top 4,top 5,top 6,top 8,top 9,top 10,top 11,top 12,top 13,top 14,top 16,top 18,top 19,top 20,top 21,top 22,top 23,top 24,top 25,top 26,top 27,top 28,top 29,top 31,top 32,top 33,top 34,top 36,top 38,top 39,top 40,top 41,top 42,top 43,top 44,top 45] } }
abbrev a90:Stmt:=top 6
abbrev a72:Stmt:=top 8
abbrev a88:Stmt:=top 9
abbrev a73:Stmt:=top 10
abbrev ac3:Stmt:=top 11
abbrev a78:Stmt:=top 12
abbrev a74:Stmt:=top 13
abbrev ad8:Stmt:=top 14
abbrev ac4:Stmt:=top 16
abbrev ag7:Stmt:=top 19
abbrev a83:Stmt:=top 20
abbrev aa2:Stmt:=top 21
abbrev aa7:Stmt:=top 22
abbrev af4:Stmt:=top 23
abbrev a79:Stmt:=top 24
abbrev a75:Stmt:=top 25
abbrev a76:Stmt:=top 26
abbrev aa3:Stmt:=top 27
abbrev aa8:Stmt:=top 28
abbrev a91:Stmt:=top 29
abbrev a92:Stmt:=top 31
abbrev a96:Stmt:=top 32
abbrev aa9:Stmt:=top 33
abbrev a43:Stmt:=inClass (top 34) 0
abbrev a50:Stmt:=inClass (top 34) 1
abbrev a51:Stmt:=inClass (top 34) 2
abbrev a52:Stmt:=inClass (top 34) 3
abbrev a46:Stmt:=inClass (top 36) 0
abbrev a53:Stmt:=inClass (top 36) 1
abbrev a57:Stmt:=inClass (top 36) 2
abbrev a58:Stmt:=inClass (top 36) 3
abbrev a49:Stmt:=inClass (top 36) 5
abbrev ab0:Stmt:=top 38
abbrev ab1:Stmt:=top 39
abbrev a77:Stmt:=top 40
abbrev ab2:Stmt:=top 41
abbrev a85:Stmt:=top 42
abbrev a80:Stmt:=top 43
abbrev a97:Stmt:=top 44
abbrev ao7:Stmt:=top 45
def ap6 (K:W.Frag):Sp:=fun vs H Q _=>∃ (a:Addr) (ns:List Int),vs=[.ref a]∧SqL K H a (ns.map V.int)∧ns.length≤63∧∀ H',Q (.bl true) H'
theorem walk {l:W.OpenLaw}{q:Program}{loose:List Str}{XP:(Str→Option Value)→Heap→Prop}{YP:World→Heap→Prop}{d:DefRec}{K:Params→W.Frag}(hn:l.most=some 63) (hdf:d.params.defaults=[])
 (hY:∀ (w:World) (h:Heap),YP w h→(K w.params).In h)
 (F:∀ (w:World) (mg:Str→Option Value) (fa:Addr) (h:Heap),(K w.params).In h→h.Ns mainGlobals mg→mg d.name=some (.ref fa) →
  ∃ fd:FuncData,(∀ (s:Shared) (u:Value),BindsTo s fd ⟨[u],[]⟩ [("script",u)])∧∀ base:Heap,(K w.params).In base→base.Ns mainGlobals mg→FnOk l.prog w (K w.params) mg base CX0 8 fa fd ["script"] (ap6 (K w.params))) :
 W.WalkO q loose XP YP l.row.toRowW d [] (fun f vs=>PySem.call f vs) :=
 L2.walk_of (n:=63) (k:=8) (x:="script") (CX:=fun _=>CX0) (sp:=fun w=>ap6 (K w.params)) hn (by decide) hdf ⟨rfl,by decide,by decide⟩ hY F (fun _ _ a ns hl _ hS=>⟨a,ns,rfl,hS,hl,fun _=>rfl⟩) fun _ _ _ _ _ z=>z
def HF (P:Params) (K:W.Frag):Prop:=∀ R:Prop,(∀
 {C_MillError:Addr}(aC_MillError:W.nsIn K mainGlobals "MillError"=some (some (.ref C_MillError)))
 {C_TooMany:Addr}(aC_TooMany:W.nsIn K mainGlobals "TooMany"=some (some (.ref C_TooMany)))
 {C_Machine:Addr}(aC_Machine:W.nsIn K mainGlobals "Machine"=some (some (.ref C_Machine)))
 {C_TableMachine:Addr}(aC_TableMachine:W.nsIn K mainGlobals "TableMachine"=some (some (.ref C_TableMachine)))
 (pg_TableMachine:W.plainGet K C_TableMachine Str.empty=true) (hd_TableMachine:W.hasDictIn K C_TableMachine=true) (po_TableMachine:W.plainOver K C_TableMachine=true) (sa_TableMachine:W.findIn K (.ref C_TableMachine) "__setattr__"=some (some (.builtin "object.__setattr__"))) (mk_TableMachine:W.makesIn K C_TableMachine=true) (kc_TableMachine:W.keepIn K (.ref C_TableMachine)=true)
 (nF_TableMachine_places:W.findIn K (.ref C_TableMachine) "places"=some none)
 (nF_TableMachine_rooms:W.findIn K (.ref C_TableMachine) "rooms"=some none)
 (nF_TableMachine_saying:W.findIn K (.ref C_TableMachine) "saying"=some none)
 {C_PackMachine:Addr}(aC_PackMachine:W.nsIn K mainGlobals "PackMachine"=some (some (.ref C_PackMachine)))
 (pg_PackMachine:W.plainGet K C_PackMachine Str.empty=true) (hd_PackMachine:W.hasDictIn K C_PackMachine=true) (po_PackMachine:W.plainOver K C_PackMachine=true) (sa_PackMachine:W.findIn K (.ref C_PackMachine) "__setattr__"=some (some (.builtin "object.__setattr__"))) (mk_PackMachine:W.makesIn K C_PackMachine=true) (kc_PackMachine:W.keepIn K (.ref C_PackMachine)=true)
 (nF_PackMachine_cells:W.findIn K (.ref C_PackMachine) "cells"=some none)
 (nF_PackMachine_places:W.findIn K (.ref C_PackMachine) "places"=some none)
 (nF_PackMachine_sayings:W.findIn K (.ref C_PackMachine) "sayings"=some none)
 (nF_PackMachine_shapes:W.findIn K (.ref C_PackMachine) "shapes"=some none)
 (nF_PackMachine_texts:W.findIn K (.ref C_PackMachine) "texts"=some none)
 {f0:Addr}{od0 an0:Option Addr}{sl0:Array (Option Value)}{oc0 kV0 dc0 pm0 cd0 ct0:Value}
 {f1:Addr}{od1 an1:Option Addr}{sl1:Array (Option Value)}{oc1 kV1 dc1 pm1 cd1 ct1:Value}
 {f2:Addr}{od2 an2:Option Addr}{sl2:Array (Option Value)}{oc2 kV2 dc2 pm2 cd2 ct2:Value}
 {f3:Addr}{od3 an3:Option Addr}{sl3:Array (Option Value)}{oc3 kV3 dc3 pm3 cd3 ct3:Value}
 {f4:Addr}{od4 an4:Option Addr}{sl4:Array (Option Value)}{oc4 kV4 dc4 pm4 cd4 ct4:Value}
 {f5:Addr}{od5 an5:Option Addr}{sl5:Array (Option Value)}{oc5 kV5 dc5 pm5 cd5 ct5:Value}
 {f6:Addr}{od6 an6:Option Addr}{sl6:Array (Option Value)}{oc6 kV6 dc6 pm6 cd6 ct6:Value}
 {f7:Addr}{od7 an7:Option Addr}{sl7:Array (Option Value)}{oc7 kV7 dc7 pm7 cd7 ct7:Value}
 {f8:Addr}{od8 an8:Option Addr}{sl8:Array (Option Value)}{oc8 kV8 dc8 pm8 cd8 ct8:Value}
 {f9:Addr}{od9 an9:Option Addr}{sl9:Array (Option Value)}{oc9 kV9 dc9 pm9 cd9 ct9:Value}
 {f10:Addr}{od10 an10:Option Addr}{sl10:Array (Option Value)}{oc10 kV10 dc10 pm10 cd10 ct10:Value}
 {f11:Addr}{od11 an11:Option Addr}{sl11:Array (Option Value)}{oc11 kV11 dc11 pm11 cd11 ct11:Value}
 {f12:Addr}{od12 an12:Option Addr}{sl12:Array (Option Value)}{oc12 kV12 dc12 pm12 cd12 ct12:Value}
 {f13:Addr}{od13 an13:Option Addr}{sl13:Array (Option Value)}{oc13 kV13 dc13 pm13 cd13 ct13:Value}
 {f14:Addr}{od14 an14:Option Addr}{sl14:Array (Option Value)}{oc14 kV14 dc14 pm14 cd14 ct14:Value}
 {f15:Addr}{od15 an15:Option Addr}{sl15:Array (Option Value)}{oc15 kV15 dc15 pm15 cd15 ct15:Value}
 {f16:Addr}{od16 an16:Option Addr}{sl16:Array (Option Value)}{oc16 kV16 dc16 pm16 cd16 ct16:Value}
 {f17:Addr}{od17 an17:Option Addr}{sl17:Array (Option Value)}{oc17 kV17 dc17 pm17 cd17 ct17:Value}
 {f18:Addr}{od18 an18:Option Addr}{sl18:Array (Option Value)}{oc18 kV18 dc18 pm18 cd18 ct18:Value}
 {f19:Addr}{od19 an19:Option Addr}{sl19:Array (Option Value)}{oc19 kV19 dc19 pm19 cd19 ct19:Value}
 {f20:Addr}{od20 an20:Option Addr}{sl20:Array (Option Value)}{oc20 kV20 dc20 pm20 cd20 ct20:Value}
 {f21:Addr}{od21 an21:Option Addr}{sl21:Array (Option Value)}{oc21 kV21 dc21 pm21 cd21 ct21:Value}
 {f22:Addr}{od22 an22:Option Addr}{sl22:Array (Option Value)}{oc22 kV22 dc22 pm22 cd22 ct22:Value}
 {f23:Addr}{od23 an23:Option Addr}{sl23:Array (Option Value)}{oc23 kV23 dc23 pm23 cd23 ct23:Value}
 {f24:Addr}{od24 an24:Option Addr}{sl24:Array (Option Value)}{oc24 kV24 dc24 pm24 cd24 ct24:Value}
 {f25:Addr}{od25 an25:Option Addr}{sl25:Array (Option Value)}{oc25 kV25 dc25 pm25 cd25 ct25:Value}
 {f26:Addr}{od26 an26:Option Addr}{sl26:Array (Option Value)}{oc26 kV26 dc26 pm26 cd26 ct26:Value}
 {f27:Addr}{od27 an27:Option Addr}{sl27:Array (Option Value)}{oc27 kV27 dc27 pm27 cd27 ct27:Value}
 {f28:Addr}{od28 an28:Option Addr}{sl28:Array (Option Value)}{oc28 kV28 dc28 pm28 cd28 ct28:Value}
 {f29:Addr}{od29 an29:Option Addr}{sl29:Array (Option Value)}{oc29 kV29 dc29 pm29 cd29 ct29:Value}
 {f30:Addr}{od30 an30:Option Addr}{sl30:Array (Option Value)}{oc30 kV30 dc30 pm30 cd30 ct30:Value}
 {f31:Addr}{od31 an31:Option Addr}{sl31:Array (Option Value)}{oc31 kV31 dc31 pm31 cd31 ct31:Value}
 {f32:Addr}{od32 an32:Option Addr}{sl32:Array (Option Value)}{oc32 kV32 dc32 pm32 cd32 ct32:Value}
 {f33:Addr}{od33 an33:Option Addr}{sl33:Array (Option Value)}{oc33 kV33 dc33 pm33 cd33 ct33:Value}
 {f34:Addr}{od34 an34:Option Addr}{sl34:Array (Option Value)}{oc34 kV34 dc34 pm34 cd34 ct34:Value}
 {f35:Addr}{od35 an35:Option Addr}{sl35:Array (Option Value)}{oc35 kV35 dc35 pm35 cd35 ct35:Value}
 {f36:Addr}{od36 an36:Option Addr}{sl36:Array (Option Value)}{oc36 kV36 dc36 pm36 cd36 ct36:Value}
 {f37:Addr}{od37 an37:Option Addr}{sl37:Array (Option Value)}{oc37 kV37 dc37 pm37 cd37 ct37:Value}
 {f38:Addr}{od38 an38:Option Addr}{sl38:Array (Option Value)}{oc38 kV38 dc38 pm38 cd38 ct38:Value}
 {f39:Addr}{od39 an39:Option Addr}{sl39:Array (Option Value)}{oc39 kV39 dc39 pm39 cd39 ct39:Value}
 (a0:W.nsIn K mainGlobals "standings"=some (some (.ref f0))) (l0:K.lookup f0=some ⟨oc0,od0,.func (W.fnOf "standings" "standings" (defArgs a90) (defBody a90) (defScope a90) .none kV0 dc0 pm0 an0 cd0 ct0),sl0⟩) (c0:W.codeIn K cd0 "standings"=true) (k0:W.keepIn K (.ref f0)=true)
 (a1:W.nsIn K mainGlobals "right_paper"=some (some (.ref f1))) (l1:K.lookup f1=some ⟨oc1,od1,.func (W.fnOf "right_paper" "right_paper" (defArgs a72) (defBody a72) (defScope a72) .none kV1 dc1 pm1 an1 cd1 ct1),sl1⟩) (c1:W.codeIn K cd1 "right_paper"=true) (k1:W.keepIn K (.ref f1)=true)
 (a2:W.nsIn K mainGlobals "begun_pair"=some (some (.ref f2))) (l2:K.lookup f2=some ⟨oc2,od2,.func (W.fnOf "begun_pair" "begun_pair" (defArgs a88) (defBody a88) (defScope a88) .none kV2 dc2 pm2 an2 cd2 ct2),sl2⟩) (c2:W.codeIn K cd2 "begun_pair"=true) (k2:W.keepIn K (.ref f2)=true)
 (a3:W.nsIn K mainGlobals "stepped_pair"=some (some (.ref f3))) (l3:K.lookup f3=some ⟨oc3,od3,.func (W.fnOf "stepped_pair" "stepped_pair" (defArgs a73) (defBody a73) (defScope a73) .none kV3 dc3 pm3 an3 cd3 ct3),sl3⟩) (c3:W.codeIn K cd3 "stepped_pair"=true) (k3:W.keepIn K (.ref f3)=true)
 (a4:W.nsIn K mainGlobals "pair_of"=some (some (.ref f4))) (l4:K.lookup f4=some ⟨oc4,od4,.func (W.fnOf "pair_of" "pair_of" (defArgs ac3) (defBody ac3) (defScope ac3) .none kV4 dc4 pm4 an4 cd4 ct4),sl4⟩) (c4:W.codeIn K cd4 "pair_of"=true) (k4:W.keepIn K (.ref f4)=true)
 (a5:W.nsIn K mainGlobals "found_paper"=some (some (.ref f5))) (l5:K.lookup f5=some ⟨oc5,od5,.func (W.fnOf "found_paper" "found_paper" (defArgs a78) (defBody a78) (defScope a78) .none kV5 dc5 pm5 an5 cd5 ct5),sl5⟩) (c5:W.codeIn K cd5 "found_paper"=true) (k5:W.keepIn K (.ref f5)=true)
 (a6:W.nsIn K mainGlobals "gone_through"=some (some (.ref f6))) (l6:K.lookup f6=some ⟨oc6,od6,.func (W.fnOf "gone_through" "gone_through" (defArgs a74) (defBody a74) (defScope a74) .none kV6 dc6 pm6 an6 cd6 ct6),sl6⟩) (c6:W.codeIn K cd6 "gone_through"=true) (k6:W.keepIn K (.ref f6)=true)
 (a7:W.nsIn K mainGlobals "row_by"=some (some (.ref f7))) (l7:K.lookup f7=some ⟨oc7,od7,.func (W.fnOf "row_by" "row_by" (defArgs ad8) (defBody ad8) (defScope ad8) .none kV7 dc7 pm7 an7 cd7 ct7),sl7⟩) (c7:W.codeIn K cd7 "row_by"=true) (k7:W.keepIn K (.ref f7)=true)
 (a8:W.nsIn K mainGlobals "counted"=some (some (.ref f8))) (l8:K.lookup f8=some ⟨oc8,od8,.func (W.fnOf "counted" "counted" (defArgs ac4) (defBody ac4) (defScope ac4) .none kV8 dc8 pm8 an8 cd8 ct8),sl8⟩) (c8:W.codeIn K cd8 "counted"=true) (k8:W.keepIn K (.ref f8)=true)
 (a9:W.nsIn K mainGlobals "pack"=some (some (.ref f9))) (l9:K.lookup f9=some ⟨oc9,od9,.func (W.fnOf "pack" "pack" (defArgs ag7) (defBody ag7) (defScope ag7) .none kV9 dc9 pm9 an9 cd9 ct9),sl9⟩) (c9:W.codeIn K cd9 "pack"=true) (k9:W.keepIn K (.ref f9)=true)
 (a10:W.nsIn K mainGlobals "sayings_of"=some (some (.ref f10))) (l10:K.lookup f10=some ⟨oc10,od10,.func (W.fnOf "sayings_of" "sayings_of" (defArgs a83) (defBody a83) (defScope a83) .none kV10 dc10 pm10 an10 cd10 ct10),sl10⟩) (c10:W.codeIn K cd10 "sayings_of"=true) (k10:W.keepIn K (.ref f10)=true)
 (a11:W.nsIn K mainGlobals "pairs_of"=some (some (.ref f11))) (l11:K.lookup f11=some ⟨oc11,od11,.func (W.fnOf "pairs_of" "pairs_of" (defArgs aa2) (defBody aa2) (defScope aa2) .none kV11 dc11 pm11 an11 cd11 ct11),sl11⟩) (c11:W.codeIn K cd11 "pairs_of"=true) (k11:W.keepIn K (.ref f11)=true)
 (a12:W.nsIn K mainGlobals "texts_in"=some (some (.ref f12))) (l12:K.lookup f12=some ⟨oc12,od12,.func (W.fnOf "texts_in" "texts_in" (defArgs aa7) (defBody aa7) (defScope aa7) .none kV12 dc12 pm12 an12 cd12 ct12),sl12⟩) (c12:W.codeIn K cd12 "texts_in"=true) (k12:W.keepIn K (.ref f12)=true)
 (a13:W.nsIn K mainGlobals "block"=some (some (.ref f13))) (l13:K.lookup f13=some ⟨oc13,od13,.func (W.fnOf "block" "block" (defArgs af4) (defBody af4) (defScope af4) .none kV13 dc13 pm13 an13 cd13 ct13),sl13⟩) (c13:W.codeIn K cd13 "block"=true) (k13:W.keepIn K (.ref f13)=true)
 (a14:W.nsIn K mainGlobals "shape_cells"=some (some (.ref f14))) (l14:K.lookup f14=some ⟨oc14,od14,.func (W.fnOf "shape_cells" "shape_cells" (defArgs a79) (defBody a79) (defScope a79) .none kV14 dc14 pm14 an14 cd14 ct14),sl14⟩) (c14:W.codeIn K cd14 "shape_cells"=true) (k14:W.keepIn K (.ref f14)=true)
 (a15:W.nsIn K mainGlobals "common_pair"=some (some (.ref f15))) (l15:K.lookup f15=some ⟨oc15,od15,.func (W.fnOf "common_pair" "common_pair" (defArgs a75) (defBody a75) (defScope a75) .none kV15 dc15 pm15 an15 cd15 ct15),sl15⟩) (c15:W.codeIn K cd15 "common_pair"=true) (k15:W.keepIn K (.ref f15)=true)
 (a16:W.nsIn K mainGlobals "block_places"=some (some (.ref f16))) (l16:K.lookup f16=some ⟨oc16,od16,.func (W.fnOf "block_places" "block_places" (defArgs a76) (defBody a76) (defScope a76) .none kV16 dc16 pm16 an16 cd16 ct16),sl16⟩) (c16:W.codeIn K cd16 "block_places"=true) (k16:W.keepIn K (.ref f16)=true)
 (a17:W.nsIn K mainGlobals "texts_at"=some (some (.ref f17))) (l17:K.lookup f17=some ⟨oc17,od17,.func (W.fnOf "texts_at" "texts_at" (defArgs aa3) (defBody aa3) (defScope aa3) .none kV17 dc17 pm17 an17 cd17 ct17),sl17⟩) (c17:W.codeIn K cd17 "texts_at"=true) (k17:W.keepIn K (.ref f17)=true)
 (a18:W.nsIn K mainGlobals "cells_in"=some (some (.ref f18))) (l18:K.lookup f18=some ⟨oc18,od18,.func (W.fnOf "cells_in" "cells_in" (defArgs aa8) (defBody aa8) (defScope aa8) .none kV18 dc18 pm18 an18 cd18 ct18),sl18⟩) (c18:W.codeIn K cd18 "cells_in"=true) (k18:W.keepIn K (.ref f18)=true)
 (a19:W.nsIn K mainGlobals "others_in"=some (some (.ref f19))) (l19:K.lookup f19=some ⟨oc19,od19,.func (W.fnOf "others_in" "others_in" (defArgs a91) (defBody a91) (defScope a91) .none kV19 dc19 pm19 an19 cd19 ct19),sl19⟩) (c19:W.codeIn K cd19 "others_in"=true) (k19:W.keepIn K (.ref f19)=true)
 (a20:W.nsIn K mainGlobals "room_with"=some (some (.ref f20))) (l20:K.lookup f20=some ⟨oc20,od20,.func (W.fnOf "room_with" "room_with" (defArgs a92) (defBody a92) (defScope a92) .none kV20 dc20 pm20 an20 cd20 ct20),sl20⟩) (c20:W.codeIn K cd20 "room_with"=true) (k20:W.keepIn K (.ref f20)=true)
 (a21:W.nsIn K mainGlobals "places_by"=some (some (.ref f21))) (l21:K.lookup f21=some ⟨oc21,od21,.func (W.fnOf "places_by" "places_by" (defArgs a96) (defBody a96) (defScope a96) .none kV21 dc21 pm21 an21 cd21 ct21),sl21⟩) (c21:W.codeIn K cd21 "places_by"=true) (k21:W.keepIn K (.ref f21)=true)
 (a22:W.nsIn K mainGlobals "place_of"=some (some (.ref f22))) (l22:K.lookup f22=some ⟨oc22,od22,.func (W.fnOf "place_of" "place_of" (defArgs aa9) (defBody aa9) (defScope aa9) .none kV22 dc22 pm22 an22 cd22 ct22),sl22⟩) (c22:W.codeIn K cd22 "place_of"=true) (k22:W.keepIn K (.ref f22)=true)
 (a23:W.findIn K (.ref C_TableMachine) "__init__"=some (some (.ref f23))) (i23:W.isFn K (.ref f23)=true) (l23:K.lookup f23=some ⟨oc23,od23,.func (W.fnOf "__init__" "TableMachine.__init__" (defArgs a43) (defBody a43) (defScope a43) .none kV23 dc23 pm23 an23 cd23 ct23),sl23⟩) (c23:W.codeIn K cd23 "TableMachine.__init__"=true) (k23:W.keepIn K (.ref f23)=true)
 (a24:W.findIn K (.ref C_TableMachine) "begin"=some (some (.ref f24))) (i24:W.isFn K (.ref f24)=true) (l24:K.lookup f24=some ⟨oc24,od24,.func (W.fnOf "begin" "TableMachine.begin" (defArgs a50) (defBody a50) (defScope a50) .none kV24 dc24 pm24 an24 cd24 ct24),sl24⟩) (c24:W.codeIn K cd24 "TableMachine.begin"=true) (k24:W.keepIn K (.ref f24)=true)
 (a25:W.findIn K (.ref C_TableMachine) "step"=some (some (.ref f25))) (i25:W.isFn K (.ref f25)=true) (l25:K.lookup f25=some ⟨oc25,od25,.func (W.fnOf "step" "TableMachine.step" (defArgs a51) (defBody a51) (defScope a51) .none kV25 dc25 pm25 an25 cd25 ct25),sl25⟩) (c25:W.codeIn K cd25 "TableMachine.step"=true) (k25:W.keepIn K (.ref f25)=true)
 (a26:W.findIn K (.ref C_TableMachine) "over"=some (some (.ref f26))) (i26:W.isFn K (.ref f26)=true) (l26:K.lookup f26=some ⟨oc26,od26,.func (W.fnOf "over" "TableMachine.over" (defArgs a52) (defBody a52) (defScope a52) .none kV26 dc26 pm26 an26 cd26 ct26),sl26⟩) (c26:W.codeIn K cd26 "TableMachine.over"=true) (k26:W.keepIn K (.ref f26)=true)
 (a27:W.findIn K (.ref C_PackMachine) "__init__"=some (some (.ref f27))) (i27:W.isFn K (.ref f27)=true) (l27:K.lookup f27=some ⟨oc27,od27,.func (W.fnOf "__init__" "PackMachine.__init__" (defArgs a46) (defBody a46) (defScope a46) .none kV27 dc27 pm27 an27 cd27 ct27),sl27⟩) (c27:W.codeIn K cd27 "PackMachine.__init__"=true) (k27:W.keepIn K (.ref f27)=true)
 (a28:W.findIn K (.ref C_PackMachine) "begin"=some (some (.ref f28))) (i28:W.isFn K (.ref f28)=true) (l28:K.lookup f28=some ⟨oc28,od28,.func (W.fnOf "begin" "PackMachine.begin" (defArgs a53) (defBody a53) (defScope a53) .none kV28 dc28 pm28 an28 cd28 ct28),sl28⟩) (c28:W.codeIn K cd28 "PackMachine.begin"=true) (k28:W.keepIn K (.ref f28)=true)
 (a29:W.findIn K (.ref C_PackMachine) "step"=some (some (.ref f29))) (i29:W.isFn K (.ref f29)=true) (l29:K.lookup f29=some ⟨oc29,od29,.func (W.fnOf "step" "PackMachine.step" (defArgs a57) (defBody a57) (defScope a57) .none kV29 dc29 pm29 an29 cd29 ct29),sl29⟩) (c29:W.codeIn K cd29 "PackMachine.step"=true) (k29:W.keepIn K (.ref f29)=true)
 (a30:W.findIn K (.ref C_PackMachine) "over"=some (some (.ref f30))) (i30:W.isFn K (.ref f30)=true) (l30:K.lookup f30=some ⟨oc30,od30,.func (W.fnOf "over" "PackMachine.over" (defArgs a58) (defBody a58) (defScope a58) .none kV30 dc30 pm30 an30 cd30 ct30),sl30⟩) (c30:W.codeIn K cd30 "PackMachine.over"=true) (k30:W.keepIn K (.ref f30)=true)
 (a31:W.findIn K (.ref C_PackMachine) "said_by"=some (some (.ref f31))) (i31:W.isFn K (.ref f31)=true) (l31:K.lookup f31=some ⟨oc31,od31,.func (W.fnOf "said_by" "PackMachine.said_by" (defArgs a49) (defBody a49) (defScope a49) .none kV31 dc31 pm31 an31 cd31 ct31),sl31⟩) (c31:W.codeIn K cd31 "PackMachine.said_by"=true) (k31:W.keepIn K (.ref f31)=true)
 (a32:W.nsIn K mainGlobals "_law_take"=some (some (.ref f32))) (l32:K.lookup f32=some ⟨oc32,od32,.func (W.fnOf "_law_take" "_law_take" (defArgs ab0) (defBody ab0) (defScope ab0) .none kV32 dc32 pm32 an32 cd32 ct32),sl32⟩) (c32:W.codeIn K cd32 "_law_take"=true) (k32:W.keepIn K (.ref f32)=true)
 (a33:W.nsIn K mainGlobals "_law_cell"=some (some (.ref f33))) (l33:K.lookup f33=some ⟨oc33,od33,.func (W.fnOf "_law_cell" "_law_cell" (defArgs ab1) (defBody ab1) (defScope ab1) .none kV33 dc33 pm33 an33 cd33 ct33),sl33⟩) (c33:W.codeIn K cd33 "_law_cell"=true) (k33:W.keepIn K (.ref f33)=true)
 (a34:W.nsIn K mainGlobals "_law_events"=some (some (.ref f34))) (l34:K.lookup f34=some ⟨oc34,od34,.func (W.fnOf "_law_events" "_law_events" (defArgs a77) (defBody a77) (defScope a77) .none kV34 dc34 pm34 an34 cd34 ct34),sl34⟩) (c34:W.codeIn K cd34 "_law_events"=true) (k34:W.keepIn K (.ref f34)=true)
 (a35:W.nsIn K mainGlobals "_law_said"=some (some (.ref f35))) (l35:K.lookup f35=some ⟨oc35,od35,.func (W.fnOf "_law_said" "_law_said" (defArgs ab2) (defBody ab2) (defScope ab2) .none kV35 dc35 pm35 an35 cd35 ct35),sl35⟩) (c35:W.codeIn K cd35 "_law_said"=true) (k35:W.keepIn K (.ref f35)=true)
 (a36:W.nsIn K mainGlobals "_law_table"=some (some (.ref f36))) (l36:K.lookup f36=some ⟨oc36,od36,.func (W.fnOf "_law_table" "_law_table" (defArgs a85) (defBody a85) (defScope a85) .none kV36 dc36 pm36 an36 cd36 ct36),sl36⟩) (c36:W.codeIn K cd36 "_law_table"=true) (k36:W.keepIn K (.ref f36)=true)
 (a37:W.nsIn K mainGlobals "_law_come_to"=some (some (.ref f37))) (l37:K.lookup f37=some ⟨oc37,od37,.func (W.fnOf "_law_come_to" "_law_come_to" (defArgs a80) (defBody a80) (defScope a80) .none kV37 dc37 pm37 an37 cd37 ct37),sl37⟩) (c37:W.codeIn K cd37 "_law_come_to"=true) (k37:W.keepIn K (.ref f37)=true)
 (a38:W.nsIn K mainGlobals "_law_right"=some (some (.ref f38))) (l38:K.lookup f38=some ⟨oc38,od38,.func (W.fnOf "_law_right" "_law_right" (defArgs a97) (defBody a97) (defScope a97) .none kV38 dc38 pm38 an38 cd38 ct38),sl38⟩) (c38:W.codeIn K cd38 "_law_right"=true) (k38:W.keepIn K (.ref f38)=true)
 (a39:W.nsIn K mainGlobals "law"=some (some (.ref f39))) (l39:K.lookup f39=some ⟨oc39,od39,.func (W.fnOf "law" "law" (defArgs ao7) (defBody ao7) (defScope ao7) .none kV39 dc39 pm39 an39 cd39 ct39),sl39⟩) (c39:W.codeIn K cd39 "law"=true) (k39:W.keepIn K (.ref f39)=true)
 (z_bool:W.nsIn K mainGlobals "bool"=some none)
 (z_dict:W.nsIn K mainGlobals "dict"=some none)
 (z_enumerate:W.nsIn K mainGlobals "enumerate"=some none)
 (z_isinstance:W.nsIn K mainGlobals "isinstance"=some none)
 (z_len:W.nsIn K mainGlobals "len"=some none)
 (z_list:W.nsIn K mainGlobals "list"=some none)
 (z_max:W.nsIn K mainGlobals "max"=some none)
 (z_min:W.nsIn K mainGlobals "min"=some none)
 (z_range:W.nsIn K mainGlobals "range"=some none)
 (z_set:W.nsIn K mainGlobals "set"=some none)
 (z_sorted:W.nsIn K mainGlobals "sorted"=some none)
 (z_sum:W.nsIn K mainGlobals "sum"=some none)
 (z_tuple:W.nsIn K mainGlobals "tuple"=some none)
 (z_zip:W.nsIn K mainGlobals "zip"=some none)
 {u_MOST_STANDINGS:Value}(m_MOST_STANDINGS:W.nsIn K mainGlobals "MOST_STANDINGS"=some (some u_MOST_STANDINGS))
 (r_MOST_STANDINGS:RelV (.int 2000) u_MOST_STANDINGS)
 {u_HEAD:Value}(m_HEAD:W.nsIn K mainGlobals "HEAD"=some (some u_HEAD))
 (r_HEAD:RelV (.int 4) u_HEAD),R)→R
theorem walk2 {l:W.OpenLaw}{q:Program}{loose:List Str}{XP:(Str→Option Value)→Heap→Prop}{YP:World→Heap→Prop}{d:DefRec}{K:Params→W.Frag}(hn:l.most=some 63) (hdf:d.params.defaults=[]) (hd:d.name="law") (hl:l=PySem.Challenge.rw_callmill_k76_whole_paper_of_a_pack) (hY:∀ (w:World) (h:Heap),YP w h→(K w.params).In h) (hF:∀ P,HF P (K P)) (G:∀ K:Params→W.Frag,(∀ P,HF P (K P))→(∀ (w:World) (mg:Str→Option Value) (fa:Addr) (h:Heap),(K w.params).In h→h.Ns mainGlobals mg→mg "law"=some (.ref fa)→∃ fd:FuncData,(∀ (s:Shared) (u:Value),BindsTo s fd ⟨[u],[]⟩ [("script",u)])∧∀ base:Heap,(K w.params).In base→base.Ns mainGlobals mg→FnOk PySem.Challenge.rw_callmill_k76_whole_paper_of_a_pack.prog w (K w.params) mg base CX0 8 fa fd ["script"] (ap6 (K w.params)))):W.WalkO q loose XP YP l.row.toRowW d [] (fun f vs=>PySem.call f vs):=walk hn hdf hY (by rw [hd,hl]; exact G K hF)
section
open PySem PySem.W PyProof.Rows
local macro_rules | `(tactic| o_head $H) => `(tactic| refine holds_open (q := K76.view) (loose := []) (Xt := fun s => xlAt K76.view [] s && recOk (RowW.records _) s) (XP := XL K76.view []) (Yf := Hook.obs $H) (Ya := Hook.val $H) (YP := Hook.says $H) (N := 8000) ?hl (Hook.of $H) (Hook.keeps $H) (fun s e => xl_of s (Bool.and_eq_true_iff.mp e).1) XL.keeps (by rfl) (by rfl) (by rfl) (fun s e => recFacts_of (Bool.and_eq_true_iff.mp e).2) (by rfl) (by first | assumption | decide +kernel) (by decide +kernel) ⟨rfl, rfl, rfl, rfl, rfl, by decide +kernel⟩ ?hw ?hc)
def bt:List Obj→Nat→BT→BT
 | [],_,t=>t
 | o::l,i,t=>bt l (i+1) (t.ins i o)
noncomputable def T0 (P:Params):BT:=bt (boot_heap P).objs.toList 0 .nil
def runT (tb:String→Option Builtin) (p:Program) (w:World) (n₀:Nat) (ann:Option Value):Nat→SharedT→Thread→Option SharedT
 | 0,_,_=>none
 | n+1,s,t=>match through t with
   | true=>some s
   | false=>match stepOk n₀ ann t with
     | false=>none
     | true=>match stepT (denote tb) p w s t with
       | some (s',t')=>runT tb p w n₀ ann n s' t'
       | none=>none
theorem bd2 {tb:String→Option Builtin}{p:Program}{w:World}{n₀:Nat}{ann:Option Value}:∀ {n:Nat}{s s':SharedT}{t:Thread},runT tb p w n₀ ann n s t=some s'→topRun tb p w n₀ ann n s.abs t=some s'.abs
 | 0,_,_,_,h=>by cases h
 | n+1,s,s',t,h=>by
   unfold runT at h
   unfold topRun
   cases he:through t with
   | true=>rw [he] at h; cases h; rfl
   | false =>
     rw [he] at h
     cases hk:stepOk n₀ ann t with
     | false=>rw [hk] at h; cases h
     | true =>
       rw [hk] at h
       cases hs:stepT (denote tb) p w s t with
       | none=>rw [hs] at h; cases h
       | some r=>obtain ⟨s₂,t₂⟩:=r; rw [hs] at h; rw [stepT_spec hs]; exact bd2 h
theorem bd3 {p q:Program}{loose:List Str}{Xt:Shared→Bool}{α:Type}{Yf:Shared→α}{Ya:World→α}{N:Nat}{g0:Bool}{m₀:Nat}{ann:Option Value}(e:opening p=plainProg p.main.scope.names) (hN:Nat.ble 600 N=true) (f:∀ s,fenceModules? p s=some s)
 (b:∀ P,boot_heap P=absHeap (T0 P) m₀ (boot_heap P).life) (z:∀ w:World,(boot_heap w.params).isNs mainGlobals=true∧(boot_heap w.params).objs.size=m₀∧(boot_heap w.params).nsMap mainGlobals "__annotations__"=ann)
 (h:∀ (w:World) (os:OsState),(runT treeTable p w m₀ ann N ⟨T0 w.params,m₀,(boot_heap w.params).life,Array.mk [],boot_drawn,boot_toks,os⟩ (topStub p)).map (fun s=>(staticsOk (importedModules p.main.body) (boot_heap w.params) s.abs.heap && namesBound p s.abs.heap && gensDone s.abs && laidKept (boot_heap w.params) s.abs.heap,openSeen q loose (importedModules p.main.body) Xt g0 s.abs,Yf s.abs))=some (true,openGood q loose,Ya w)):LeftO p q loose Xt Yf Ya N g0:=fun w=>by
 obtain ⟨⟨hp,g,d,k,os⟩,hs,hv⟩:=gO (boot_open e hN f w)
 injection hv with v1 v2
 injection v2 with v2 v3
 injection v3 with v3 v4
 dsimp only at v1 v2 v3 v4
 subst v1 v2 v3 v4
 obtain ⟨z1,z2,z3⟩:=z w
 obtain ⟨s',h1,h2⟩:=gO (h w os)
 obtain ⟨l1,l2,l3⟩:_∧_∧_:=by simpa only [Prod.mk.injEq] using h2
 have r:=bd2 h1
 have r':topRun treeTable p w m₀ ann N ⟨boot_heap w.params,Array.mk [],boot_drawn,boot_toks,os⟩ (topStub p)=some s'.abs:=by
  rw [b w.params]
  exact r
 unfold openEnds
 rw [hs]
 show (topFrom treeTable p w N _).map _=_
 unfold topFrom
 dsimp only
 rw [z1,z2,z3,r']
 show (match staticsOk (importedModules p.main.body) (boot_heap w.params) s'.abs.heap && namesBound p s'.abs.heap && gensDone s'.abs && laidKept (boot_heap w.params) s'.abs.heap with | true=>some s'.abs | false=>none).map _=_
 rw [l1]
 exact congrArg some (Prod.ext l2 l3)
theorem c69 (P:Params):boot_heap P=absHeap (T0 P) 11 (boot_heap P).life:=by kernel_rfl
theorem c70 (w:World):(boot_heap w.params).isNs mainGlobals=true∧(boot_heap w.params).objs.size=11∧(boot_heap w.params).nsMap mainGlobals "__annotations__"=some (.ref 6):=⟨by kernel_rfl,by kernel_rfl,by kernel_rfl⟩
set_option maxRecDepth 100000 in
set_option maxHeartbeats 0 in
theorem head (G:∀ K:Params→W.Frag,(∀ P,HF P (K P))→(∀ (w:World) (mg:Str→Option Value) (fa:Addr) (h:Heap),(K w.params).In h→h.Ns mainGlobals mg→mg "law"=some (.ref fa)→∃ fd:FuncData,(∀ (s:Shared) (u:Value),BindsTo s fd ⟨[u],[]⟩ [("script",u)])∧∀ base:Heap,(K w.params).In base→base.Ns mainGlobals mg→FnOk PySem.Challenge.rw_callmill_k76_whole_paper_of_a_pack.prog w (K w.params) mg base CX0 8 fa fd ["script"] (ap6 (K w.params)))):PySem.Challenge.rw_callmill_k76_whole_paper_of_a_pack.Holds:=by
 w_on; o_law; k_head; (case hw=>w_witness2); (case hl=>exact bd3 rfl rfl (fun _=>rfl) c69 c70 (by intro w os; kernel_rfl))
 k_fill
 refine K76.walk2 (l:=PySem.Challenge.rw_callmill_k76_whole_paper_of_a_pack) rfl rfl rfl rfl (fun w h Y=>W.kIn_of Y) ?facts G
 case facts =>
  intro P R kk
  refine' kk ?aC_MillError ?aC_TooMany ?aC_Machine ?aC_TableMachine ?pg_TableMachine ?hd_TableMachine ?po_TableMachine ?sa_TableMachine ?mk_TableMachine ?kc_TableMachine ?nF_TableMachine_places ?nF_TableMachine_rooms ?nF_TableMachine_saying ?aC_PackMachine ?pg_PackMachine ?hd_PackMachine ?po_PackMachine ?sa_PackMachine ?mk_PackMachine ?kc_PackMachine ?nF_PackMachine_cells ?nF_PackMachine_places ?nF_PackMachine_sayings ?nF_PackMachine_shapes ?nF_PackMachine_texts ?a0 ?l0 ?c0 ?k0 ?a1 ?l1 ?c1 ?k1 ?a2 ?l2 ?c2 ?k2 ?a3 ?l3 ?c3 ?k3 ?a4 ?l4 ?c4 ?k4 ?a5 ?l5 ?c5 ?k5 ?a6 ?l6 ?c6 ?k6 ?a7 ?l7 ?c7 ?k7 ?a8 ?l8 ?c8 ?k8 ?a9 ?l9 ?c9 ?k9 ?a10 ?l10 ?c10 ?k10 ?a11 ?l11 ?c11 ?k11 ?a12 ?l12 ?c12 ?k12 ?a13 ?l13 ?c13 ?k13 ?a14 ?l14 ?c14 ?k14 ?a15 ?l15 ?c15 ?k15 ?a16 ?l16 ?c16 ?k16 ?a17 ?l17 ?c17 ?k17 ?a18 ?l18 ?c18 ?k18 ?a19 ?l19 ?c19 ?k19 ?a20 ?l20 ?c20 ?k20 ?a21 ?l21 ?c21 ?k21 ?a22 ?l22 ?c22 ?k22 ?a23 ?i23 ?l23 ?c23 ?k23 ?a24 ?i24 ?l24 ?c24 ?k24 ?a25 ?i25 ?l25 ?c25 ?k25 ?a26 ?i26 ?l26 ?c26 ?k26 ?a27 ?i27 ?l27 ?c27 ?k27 ?a28 ?i28 ?l28 ?c28 ?k28 ?a29 ?i29 ?l29 ?c29 ?k29 ?a30 ?i30 ?l30 ?c30 ?k30 ?a31 ?i31 ?l31 ?c31 ?k31 ?a32 ?l32 ?c32 ?k32 ?a33 ?l33 ?c33 ?k33 ?a34 ?l34 ?c34 ?k34 ?a35 ?l35 ?c35 ?k35 ?a36 ?l36 ?c36 ?k36 ?a37 ?l37 ?c37 ?k37 ?a38 ?l38 ?c38 ?k38 ?a39 ?l39 ?c39 ?k39 ?z_bool ?z_dict ?z_enumerate ?z_isinstance ?z_len ?z_list ?z_max ?z_min ?z_range ?z_set ?z_sorted ?z_sum ?z_tuple ?z_zip ?m_MOST_STANDINGS ?r_MOST_STANDINGS ?m_HEAD ?r_HEAD
  (case aC_MillError=>k_is)
  (case aC_TooMany=>k_is)
  (case aC_Machine=>k_is)
  (case aC_TableMachine=>k_is)
  (case pg_TableMachine=>k_is)
  (case hd_TableMachine=>k_is)
  (case po_TableMachine=>k_is)
  (case sa_TableMachine=>k_is)
  (case mk_TableMachine=>k_is)
  (case kc_TableMachine=>k_is)
  (case nF_TableMachine_places=>k_is)
  (case nF_TableMachine_rooms=>k_is)
  (case nF_TableMachine_saying=>k_is)
  (case aC_PackMachine=>k_is)
  (case pg_PackMachine=>k_is)
  (case hd_PackMachine=>k_is)
  (case po_PackMachine=>k_is)
  (case sa_PackMachine=>k_is)
  (case mk_PackMachine=>k_is)
  (case kc_PackMachine=>k_is)
  (case nF_PackMachine_cells=>k_is)
  (case nF_PackMachine_places=>k_is)
  (case nF_PackMachine_sayings=>k_is)
  (case nF_PackMachine_shapes=>k_is)
  (case nF_PackMachine_texts=>k_is)
  (case a0=>k_is)
  (case l0=>k_is)
  (case c0=>k_is)
  (case k0=>k_is)
  (case a1=>k_is)
  (case l1=>k_is)
  (case c1=>k_is)
  (case k1=>k_is)
  (case a2=>k_is)
  (case l2=>k_is)
  (case c2=>k_is)
  (case k2=>k_is)
  (case a3=>k_is)
  (case l3=>k_is)
  (case c3=>k_is)
  (case k3=>k_is)
  (case a4=>k_is)
  (case l4=>k_is)
  (case c4=>k_is)
  (case k4=>k_is)
  (case a5=>k_is)
  (case l5=>k_is)
  (case c5=>k_is)
  (case k5=>k_is)
  (case a6=>k_is)
  (case l6=>k_is)
  (case c6=>k_is)
  (case k6=>k_is)
  (case a7=>k_is)
  (case l7=>k_is)
  (case c7=>k_is)
  (case k7=>k_is)
  (case a8=>k_is)
  (case l8=>k_is)
  (case c8=>k_is)
  (case k8=>k_is)
  (case a9=>k_is)
  (case l9=>k_is)
  (case c9=>k_is)
  (case k9=>k_is)
  (case a10=>k_is)
  (case l10=>k_is)
  (case c10=>k_is)
  (case k10=>k_is)
  (case a11=>k_is)
  (case l11=>k_is)
  (case c11=>k_is)
  (case k11=>k_is)
  (case a12=>k_is)
  (case l12=>k_is)
  (case c12=>k_is)
  (case k12=>k_is)
  (case a13=>k_is)
  (case l13=>k_is)
  (case c13=>k_is)
  (case k13=>k_is)
  (case a14=>k_is)
  (case l14=>k_is)
  (case c14=>k_is)
  (case k14=>k_is)
  (case a15=>k_is)
  (case l15=>k_is)
  (case c15=>k_is)
  (case k15=>k_is)
  (case a16=>k_is)
  (case l16=>k_is)
  (case c16=>k_is)
  (case k16=>k_is)
  (case a17=>k_is)
  (case l17=>k_is)
  (case c17=>k_is)
  (case k17=>k_is)
  (case a18=>k_is)
  (case l18=>k_is)
  (case c18=>k_is)
  (case k18=>k_is)
  (case a19=>k_is)
  (case l19=>k_is)
  (case c19=>k_is)
  (case k19=>k_is)
  (case a20=>k_is)
  (case l20=>k_is)
  (case c20=>k_is)
  (case k20=>k_is)
  (case a21=>k_is)
  (case l21=>k_is)
  (case c21=>k_is)
  (case k21=>k_is)
  (case a22=>k_is)
  (case l22=>k_is)
  (case c22=>k_is)
  (case k22=>k_is)
  (case a23=>k_is)
  (case i23=>k_is)
  (case l23=>k_is)
  (case c23=>k_is)
  (case k23=>k_is)
  (case a24=>k_is)
  (case i24=>k_is)
  (case l24=>k_is)
  (case c24=>k_is)
  (case k24=>k_is)
  (case a25=>k_is)
  (case i25=>k_is)
  (case l25=>k_is)
  (case c25=>k_is)
  (case k25=>k_is)
  (case a26=>k_is)
  (case i26=>k_is)
  (case l26=>k_is)
  (case c26=>k_is)
  (case k26=>k_is)
  (case a27=>k_is)
  (case i27=>k_is)
  (case l27=>k_is)
  (case c27=>k_is)
  (case k27=>k_is)
  (case a28=>k_is)
  (case i28=>k_is)
  (case l28=>k_is)
  (case c28=>k_is)
  (case k28=>k_is)
  (case a29=>k_is)
  (case i29=>k_is)
  (case l29=>k_is)
  (case c29=>k_is)
  (case k29=>k_is)
  (case a30=>k_is)
  (case i30=>k_is)
  (case l30=>k_is)
  (case c30=>k_is)
  (case k30=>k_is)
  (case a31=>k_is)
  (case i31=>k_is)
  (case l31=>k_is)
  (case c31=>k_is)
  (case k31=>k_is)
  (case a32=>k_is)
  (case l32=>k_is)
  (case c32=>k_is)
  (case k32=>k_is)
  (case a33=>k_is)
  (case l33=>k_is)
  (case c33=>k_is)
  (case k33=>k_is)
  (case a34=>k_is)
  (case l34=>k_is)
  (case c34=>k_is)
  (case k34=>k_is)
  (case a35=>k_is)
  (case l35=>k_is)
  (case c35=>k_is)
  (case k35=>k_is)
  (case a36=>k_is)
  (case l36=>k_is)
  (case c36=>k_is)
  (case k36=>k_is)
  (case a37=>k_is)
  (case l37=>k_is)
  (case c37=>k_is)
  (case k37=>k_is)
  (case a38=>k_is)
  (case l38=>k_is)
  (case c38=>k_is)
  (case k38=>k_is)
  (case a39=>k_is)
  (case l39=>k_is)
  (case c39=>k_is)
  (case k39=>k_is)
  (case z_bool=>k_is)
  (case z_dict=>k_is)
  (case z_enumerate=>k_is)
  (case z_isinstance=>k_is)
  (case z_len=>k_is)
  (case z_list=>k_is)
  (case z_max=>k_is)
  (case z_min=>k_is)
  (case z_range=>k_is)
  (case z_set=>k_is)
  (case z_sorted=>k_is)
  (case z_sum=>k_is)
  (case z_tuple=>k_is)
  (case z_zip=>k_is)
  (case m_MOST_STANDINGS=>k_is)
  (case r_MOST_STANDINGS=>exact ⟨_,rfl⟩)
  (case m_HEAD=>k_is)
  (case r_HEAD=>exact ⟨_,rfl⟩)
end
end K76
namespace L2
open PySem PySem.Spec PyProof.Rows
section
variable {κ:Type} [DecidableEq κ]
def valV (kvs:List (κ×V)) (k:κ):Option V:=(kvs.find? fun kv=>decide (kv.1=k)).map (·.2)
def putK (kvs:List (κ×V)) (k:κ) (v:V):List (κ×V) :=
 if (kvs.any fun kv=>decide (kv.1=k))=true then kvs.map (fun kv=>if kv.1=k then (kv.1,v) else kv) else kvs++[(k,v)]
theorem bm6 {k:κ}:valV ([]:List (κ×V)) k=none:=rfl
theorem aa4 {p:κ×V}{r:List (κ×V)}{k:κ}(e:p.1=k):valV (p::r) k=some p.2:=by simp [valV,List.find?_cons,e]
theorem aa5 {p:κ×V}{r:List (κ×V)}{k:κ}(e:¬ p.1=k):valV (p::r) k=valV r k:=by simp [valV,List.find?_cons,e]
theorem ah8 (k:κ):∀ kvs:List (κ×V),(kvs.any fun kv=>decide (kv.1=k))=(valV kvs k).isSome
 | []=>rfl
 | p::r=>by
   rw [List.any_cons]
   by_cases e:p.1=k
   · simp only [aa4 e,decide_eq_true e,Bool.true_or,Option.isSome_some]
   · rw [aa5 e,decide_eq_false e,Bool.false_or]; exact ah8 k r
theorem b49 (k j:κ) (y:V):∀ kvs:List (κ×V),valV (kvs.map fun kv=>if kv.1=k then (kv.1,y) else kv) j=(valV kvs j).map fun x=>if j=k then y else x
 | []=>rfl
 | p::r=>by
   have ih:=b49 k j y r
   rw [List.map_cons]
   by_cases h:p.1=k
   · rw [if_pos h]
     by_cases e:p.1=j
     · rw [aa4 (p:=(p.1,y)) e,aa4 e,Option.map_some,if_pos (e.symm.trans h)]
     · rw [aa5 (p:=(p.1,y)) e,aa5 e,ih]
   · rw [if_neg h]
     by_cases e:p.1=j
     · rw [aa4 (p:=p) e,aa4 e,Option.map_some,if_neg (fun z=>h (e.trans z))]
     · rw [aa5 (p:=p) e,aa5 e,ih]
theorem au8 (k j:κ) (y:V):∀ kvs:List (κ×V),valV kvs k=none→valV (kvs++[(k,y)]) j=if j=k then some y else valV kvs j
 | [],_=>by
   by_cases e:k=j
   · rw [if_pos e.symm]; exact aa4 (p:=(k,y)) e
   · rw [if_neg (fun z=>e z.symm)]; exact aa5 (p:=(k,y)) e
 | p::r,hn=>by
   rw [List.cons_append]
   have hk:¬ p.1=k:=fun z=>by rw [aa4 z] at hn; cases hn
   rw [aa5 hk] at hn
   have ih:=au8 k j y r hn
   by_cases e:p.1=j
   · rw [aa4 e,aa4 e,if_neg (fun z=>hk (e.trans z))]
   · rw [aa5 e,aa5 e,ih]
theorem ar8 (kvs:List (κ×V)) (k j:κ) (y:V):valV (putK kvs k y) j=if j=k then some y else valV kvs j:=by
 unfold putK
 by_cases a:(kvs.any fun kv=>decide (kv.1=k))=true
 · rw [if_pos a,b49]
   rw [ah8] at a
   by_cases e:j=k
   · obtain ⟨x,hx⟩:=Option.isSome_iff_exists.mp a
     rw [if_pos e,e,hx,Option.map_some,if_pos rfl]
   · rw [if_neg e]
     cases valV kvs j with
     | none=>rfl
     | some x=>rw [Option.map_some,if_neg e]
 · rw [if_neg a]
   refine au8 k j y kvs ?_
   rw [ah8] at a
   cases q:valV kvs k with
   | none=>rfl
   | some x=>rw [q] at a; exact (a rfl).elim
theorem a98 (kvs:List (κ×V)) (k:κ) (v:V):(putK kvs k v).length≤kvs.length+1:=by
 unfold putK
 split
 · rw [gL]; omega
 · rw [List.length_append,List.length_cons,List.length_nil]; omega
theorem bm7 {kvs:List (κ×V)}{k:κ}(v:V) (h:valV kvs k=none):putK kvs k v=kvs++[(k,v)]:=by
 unfold putK
 rw [ah8,h]
 exact if_neg (by decide)
theorem RelO.isSome_eq {o:Option V}{u:Option Value}(r:RelO o u):o.isSome=u.isSome:=by
 cases o with
 | none=>cases u with
   | none=>rfl
   | some _=>exact (show False from r).elim
 | some _=>cases u with
   | none=>exact (show False from r).elim
   | some _=>rfl
theorem RelO.getD {o:Option V}{u:Option Value}{d:V}{d':Value}(r:RelO o u) (rd:RelV d d'):RelV (o.getD d) (u.getD d'):=by
 cases o with
 | none=>cases u with
   | none=>exact rd
   | some _=>exact (show False from r).elim
 | some _=>cases u with
   | none=>exact (show False from r).elim
   | some _=>exact r
theorem KV.val {kvs:List (κ×V)}{vs:List (κ×Value)}(r:KV kvs vs) (k:κ):RelO (valV kvs k) (valueAt vs k):=by
 unfold KV at r
 induction r with
 | nil=>exact True.intro
 | @cons p q ps qs h t ih =>
   obtain ⟨h1,h2⟩:=h
   by_cases e:p.1=k
   · have e':q.1=k:=h1.symm.trans e
     have b:valueAt (q::qs) k=some q.2:=by simp [valueAt,List.find?_cons,e']
     rw [aa4 e,b]; exact h2
   · have e':¬ q.1=k:=fun z=>e (h1.trans z)
     have b:valueAt (q::qs) k=valueAt qs k:=by simp [valueAt,List.find?_cons,e']
     rw [aa5 e,b]; exact ih
theorem KV.any {kvs:List (κ×V)}{vs:List (κ×Value)}(r:KV kvs vs) (k:κ):(kvs.any fun kv=>decide (kv.1=k))=vs.any fun kv=>decide (kv.1=k):=by
 unfold KV at r
 induction r with
 | nil=>rfl
 | cons h t ih=>rw [List.any_cons,List.any_cons,ih,h.1]
theorem KV.repl {kvs:List (κ×V)}{vs:List (κ×Value)}(r:KV kvs vs) (k:κ) {y:V}{u:Value}(ry:RelV y u) :
 KV (kvs.map fun kv=>if kv.1=k then (kv.1,y) else kv) (vs.map fun kv=>if kv.1=k then (kv.1,u) else kv):=by
 unfold KV at r ⊢
 induction r with
 | nil=>exact .nil
 | @cons p q ps qs h t ih =>
   rw [List.map_cons,List.map_cons]
   refine .cons ?_ ih
   obtain ⟨h1,h2⟩:=h
   by_cases e:p.1=k
   · rw [if_pos e,if_pos (h1.symm.trans e)]; exact ⟨h1,ry⟩
   · rw [if_neg e,if_neg (fun z=>e (h1.trans z))]; exact ⟨h1,h2⟩
theorem KV.put {kvs:List (κ×V)}{vs:List (κ×Value)}(r:KV kvs vs) (k:κ) {y:V}{u:Value}(ry:RelV y u):KV (putK kvs k y) (stored vs k u):=by
 unfold putK stored
 rw [r.any k]
 by_cases e:(vs.any fun kv=>decide (kv.1=k))=true
 · rw [if_pos e,if_pos e]; exact r.repl k ry
 · rw [if_neg e,if_neg e]; exact Paired.snoc r ⟨rfl,ry⟩
theorem KV.length {kvs:List (κ×V)}{vs:List (κ×Value)}(r:KV kvs vs):kvs.length=vs.length:=Paired.length r
end
theorem bm8 {P:Program}{w:World}{k:Key}{u:Value}(r:RelV (kV k) u):(mixKind P w).is k u=true:=by
 cases k with
 | inl i=>obtain ⟨t,e⟩:=(show ∃ t,u=Value.int i t from r); subst e; exact ay0 P w i t
 | inr x=>obtain ⟨t,e⟩:=(show ∃ t,u=Value.str x t from r); subst e; exact ay1 P w x t
theorem au9 {P:Program}{w:World}:∀ {ks:List Key}{us:List Value},Vals (ks.map kV) us→ItemsAre (mixKind P w) ks us
 | [],_,r=>by rw [List.map_nil] at r; cases r; exact .nil
 | k::ks,_,r=>by
   rw [List.map_cons] at r
   cases r with
   | cons h t=>exact .cons (bm8 h) (au9 t)
abbrev KT (H:Hp):List (List Key×V)→List (List Key×Addr×Value)→Prop:=Paired fun p q=>p.1=q.1∧H q.2.1=some (.tup (p.1.map kV))∧RelV p.2 q.2.2
theorem KT.val {H:Hp}{kvs:List (List Key×V)}{xs:List (List Key×Addr×Value)}(r:KT H kvs xs) (k:List Key):RelO (valV kvs k) ((atKey xs k).map (·.2)):=by
 induction r with
 | nil=>exact True.intro
 | @cons p q ps qs h t ih =>
   obtain ⟨h1,_,h2⟩:=h
   by_cases e:p.1=k
   · have e':q.1=k:=h1.symm.trans e
     have b:atKey (q::qs) k=some q.2:=by simp [atKey,List.find?_cons,e']
     rw [aa4 e,b]; exact h2
   · have e':¬ q.1=k:=fun z=>e (h1.trans z)
     have b:atKey (q::qs) k=atKey qs k:=by simp [atKey,List.find?_cons,e']
     rw [aa5 e,b]; exact ih
theorem KT.repl {H:Hp}{kvs:List (List Key×V)}{xs:List (List Key×Addr×Value)}(r:KT H kvs xs) (k:List Key) {y:V}{u:Value}(ry:RelV y u) :
 KT H (kvs.map fun kv=>if kv.1=k then (kv.1,y) else kv) (xs.map (putAt k u)):=by
 induction r with
 | nil=>exact .nil
 | @cons p q ps qs h t ih =>
   rw [List.map_cons,List.map_cons]
   refine .cons ?_ ih
   obtain ⟨h1,h2,h3⟩:=h
   unfold putAt
   by_cases e:p.1=k
   · rw [if_pos e,if_pos (h1.symm.trans e)]; exact ⟨h1,h2,ry⟩
   · rw [if_neg e,if_neg (fun z=>e (h1.trans z))]; exact ⟨h1,h2,h3⟩
theorem KT.put {H:Hp}{kvs:List (List Key×V)}{xs:List (List Key×Addr×Value)}(r:KT H kvs xs) (k:List Key) {b:Addr}{y:V}{u:Value}(hb:H b=some (.tup (k.map kV))) (ry:RelV y u) :
 KT H (putK kvs k y) (storedH xs k b u):=by
 have e:(kvs.any fun kv=>decide (kv.1=k))=(atKey xs k).isSome:=by
  rw [ah8,(r.val k).isSome_eq,Option.isSome_map]
 unfold putK storedH
 rw [e]
 by_cases q:(atKey xs k).isSome=true
 · rw [if_pos q,if_pos q]; exact r.repl k ry
 · rw [if_neg q,if_neg q]; exact Paired.snoc r ⟨rfl,hb,ry⟩
theorem KT.keeps {H H':Hp}{kvs:List (List Key×V)}{xs:List (List Key×Addr×Value)}(r:KT H kvs xs) (ht:∀ b ys,H b=some (.tup ys)→H' b=some (.tup ys)):KT H' kvs xs :=
 Paired.mapP r fun _ _ z=>⟨z.1,ht _ _ z.2.1,z.2.2⟩
section
variable {P:Program}{w:World}{H:Hp}{h:Heap}{a:Addr}
theorem c71 {u:HO}(ok:HOk P w H h) (e:Rd H a u):ObjOk P w H h a u:=e.ok ok
theorem c72 {kvs:List (Key×V)}(ok:HOk P w H h) (e:Rd H a (.dK kvs)):kvs.length≤sizeLine∧(a == sysModules)=false∧∃ vs,KV kvs vs∧h.DictOf (mixKind P w) a vs :=
 show ObjOk P w H h a (.dK kvs) from c71 ok e
theorem c73 {kvs:List (Key×V)}(ok:HOk P w H h) (e:H a=some (.dK kvs)):kvs.length≤sizeLine∧(a == sysModules)=false∧∃ vs,KV kvs vs∧h.DictOf (mixKind P w) a vs:=c72 ok (.inl e)
theorem bd4 {ks:List Key}(ok:HOk P w H h) (e:H a=some (.tup (ks.map kV))):(tupleKind (mixKind P w)).is h ks a:=by
 obtain ⟨_,its,r,o,h1,h2,n,h3⟩:=(show ObjOk P w H h a (.tup (ks.map kV)) from ok a _ e)
 exact ⟨o,its.toArray,n,h1,h2,h3,by simpa using au9 r⟩
theorem c74 {kvs:List (List Key×V)}(ok:HOk P w H h) (e:Rd H a (.dT kvs)):kvs.length≤sizeLine∧(a == sysModules)=false ∧
 ∃ xs,KT H kvs xs∧h.DictOfH (tupleKind (mixKind P w)) a xs:=by
 obtain ⟨z,y,xs,r,o,es,ep,h1,h2,h3,h4,h5⟩:=(show ObjOk P w H h a (.dT kvs) from c71 ok e)
 refine ⟨z,y,xs,r,o,es,ep,h1,h2,h3,h4,fun x hx=>?_,h5⟩
 have all:∀ {l:List (List Key×V)}{m:List (List Key×Addr×Value)},KT H l m→∀ x∈m,(tupleKind (mixKind P w)).is h x.1 x.2.1:=by
  intro l m q
  induction q with
  | nil=>intro x hx; exact nomatch hx
  | @cons p q ps qs hq t ih =>
    intro x hx
    rcases List.mem_cons.mp hx with e | hx
    · subst e
      exact bd4 ok (by rw [← hq.1]; exact hq.2.1)
    · exact ih x hx
 exact all r x hx
theorem cf2 {kvs:List (List Key×V)}(ok:HOk P w H h) (e:H a=some (.dT kvs)):kvs.length≤sizeLine∧(a == sysModules)=false ∧
 ∃ xs,KT H kvs xs∧h.DictOfH (tupleKind (mixKind P w)) a xs:=c74 ok (.inl e)
end
def DGet (H:Hp) (a:Addr) (y:V) (r:Option V):Prop :=
 (∃ kvs k,Rd H a (.dK kvs)∧y=kV k∧r=valV kvs k)∨∃ kvs k b,Rd H a (.dT kvs)∧y=.ref b∧H b=some (.tup (k.map kV))∧r=valV kvs k
def DPut (H:Hp) (a:Addr) (y v:V) (H':Hp):Prop :=
 (∃ kvs k,H a=some (.dK kvs)∧y=kV k∧kvs.length<sizeLine∧H'=upd H a (.dK (putK kvs k v))) ∨
 ∃ kvs k b,H a=some (.dT kvs)∧y=.ref b∧H b=some (.tup (k.map kV))∧kvs.length<sizeLine∧H'=upd H a (.dT (putK kvs k v))
section
variable {X:Cx}{pins:List (Addr×Obj)}{σ:St} {H:Hp}{s:Shared}{a:Addr}{y v:V}{u r:Value}{o:Option V}{A:Around}{E:Value→Shared→Prop}
theorem Inv.big (I:Inv X pins σ H s):sysModules<s.heap.objs.size:=by
 have h:mainGlobals<s.heap.objs.size:=(I.mod.glob.keeps I.bk).lt
 exact Nat.lt_trans (by decide) h
theorem d_in {Q:Value→Shared→Prop}(hu:A.units+1<cLine) (I:Inv X pins σ H s) (g:DGet H a y o) (ry:RelV y u) (h:∀ s',Inv X pins σ H s'→Q (.bool o.isSome) s') :
 wpAny (model X.prog X.w) A (compareOp .In u (.ref a)) Q E s:=by
 rcases g with ⟨kvs,k,e,ey,l⟩ | ⟨kvs,k,b,e,ey,eb,l⟩
 · subst ey
   obtain ⟨z,hd,vs,rel,dd⟩:=c72 I.hok e
   refine wpAny_in_of (bm8 ry) hd dd.mapOf ?_
   rw [← (rel.val k).isSome_eq,←l]
   exact h _ (I.tok _)
 · subst ey
   cases (show u=Value.ref b from ry)
   obtain ⟨z,hd,xs,rel,dd⟩:=c74 I.hok e
   refine wpAny_in_heap (tupleKind_room_in1 hu) (bd4 I.hok eb) hd dd ?_
   have q:=(rel.val k).isSome_eq
   rw [Option.isSome_map] at q
   rw [← q,←l]
   exact h _ (I.tok _)
theorem ak3 {h':Heap}{t':Nat}{ob:HO}(I:Inv X pins σ H s) (mu:Mut (H a)) (hs:Heap.SameBut a s.heap h') (he:∃ q,h'.get? a=some q) (new:ObjOk X.prog X.w (upd H a ob) h' a ob) :
 Inv X pins σ (upd H a ob) { s with heap:=h',toks:=t' } :=
 I.write (x:=a) (e:=a) mu (.inl rfl) (fun b q hb z=>(hs.2 b hb).trans z) he new
theorem bt7 {P:Program}{w:World}{H':Hp}{h':Heap}{kvs:List (Key×V)}{vs:List (Key×Value)}(z:kvs.length≤sizeLine) (hd:(a == sysModules)=false) (rel:KV kvs vs) (dd:h'.DictOf (mixKind P w) a vs) :
 ObjOk P w H' h' a (.dK kvs):=⟨z,hd,vs,rel,dd⟩
theorem bd5 {H':Hp}{Q:Unit→Shared→Prop}(hu:A.units+1<cLine) (I:Inv X pins σ H s) (g:DPut H a y v H') (ry:RelV y u) (rv:RelV v r) (h:∀ s',Inv X pins σ H' s'→Q () s') :
 wpAny (model X.prog X.w) A (setItem (.ref a) u r) Q E s:=by
 rcases g with ⟨kvs,k,e,ey,l,eH⟩ | ⟨kvs,k,b,e,ey,eb,l,eH⟩
 · subst ey eH
   obtain ⟨z,hd,vs,rel,dd⟩:=c73 I.hok e
   have hz:vs.length≤sizeLine:=by rw [← rel.length]; exact z
   have hl:(putK kvs k v).length≤sizeLine:=by have:=a98 kvs k v; omega
   refine wpAny_setItem_pairs (hsz:=hz) (bm8 ry) dd fun h' dd' hs=>h _ ?_
   have he:∃ q,h'.get? a=some q:=let ⟨q,_,_,hq,_⟩:=dd'; ⟨q,hq⟩
   exact ak3 I (by rw [e]; exact True.intro) hs he (bt7 hl hd (rel.put k rv) dd')
 · subst ey eH
   cases (show u=Value.ref b from ry)
   obtain ⟨z,hd,xs,rel,dd⟩:=cf2 I.hok e
   have hz:xs.length≤sizeLine:=by rw [← Paired.length rel]; exact z
   have hl:(putK kvs k v).length≤sizeLine:=by have:=a98 kvs k v; omega
   refine wpAny_setItem_heap (hsz:=hz) (tupleKind_room_in1 hu) (bd4 I.hok eb) dd fun h' dd' hs=>h _ ?_
   obtain ⟨q,es,ep,hq,h2,h3,h4,_,h5⟩:=dd'
   refine ak3 I (by rw [e]; exact True.intro) hs ⟨q,hq⟩ ⟨hl,hd,_,(rel.put k eb rv).keeps fun c ys ec=>?_,q,es,ep,hq,h2,h3,h4,h5⟩
   rw [a09 (ag4 ec e (fun z=>nomatch z))]
   exact ec
end
section
variable {X:Cx}{pins:List (Addr×Obj)}{σ:St} {H:Hp}{s:Shared}{a:Addr}{kvs:List (Key×V)}{k:Key}{u:Value}{A:Around}{E:Value→Shared→Prop}
end
def NoSl (i:Expr):Prop:=∀ ov iv,subscripted i false ov iv=operate [ov,iv] (getItem ov iv)
theorem bw1 {prog:Program}{w:World}{A:Around}{E:Value→Shared→Prop}{s:Shared}{env:Env}{value slice:Expr}{pos:Pos}{T id:String}{Q:Value→Shared→Prop}
 (hl:typeLookup (.type T) "__getitem__"=pure (some (.builtin id))) (hs:NoSl slice)
 (h:wpAny (model prog w) A (eval value env) (fun o s₁=>wpAny (model prog w) A (eval slice env) (fun i s₂=>s₂.TypeIs o T∧wpAny (model prog w) A (getItem o i) Q E s₂) E s₁) E s) :
 wpAny (model prog w) A (eval (.Subscript value slice pos) env) Q E s:=by
 refine Subscript_ (wpAny_mono h (fun o s₁ h₁=>wpAny_mono h₁ (fun i s₂ h₂=>?_) fun _ _ x=>x) fun _ _ x=>x)
 obtain ⟨hT,h₂⟩:=h₂
 unfold subscriptTail
 refine wB ?_
 rw [getitemInPython_of_ne hT.not_modules]
 refine wB (wpAny_specialOf hT hl ?_)
 have fin:wpAny (model prog w) A (subscripted slice false o i) (fun r s₃=>wpAny (model prog w) A (letTemporaryGo value o r >>= fun _=>pure r) Q E s₃) E s₂:=by
  rw [hs o i]
  exact wpAny_operating (wpAny_mono h₂ (fun r s₃ h₃=>wB (wpAny_letTemporaryGo (wpAny_pure h₃))) fun _ _ x=>x)
 first
  | exact wpAny_pure (wB fin)
  | exact wB (wpAny_pure (wB fin))
  | exact wB fin
def tDIn (ty td:TE):TE:=fun σ H Q=>ty σ H fun y H1=>td σ H1 fun x H2=>∃ a o,x=.ref a∧DGet H2 a y o∧Q (.bl o.isSome) H2
def sDPut (td ty tv:TE):TS:=fun D σ H=>tv σ H fun v H1=>td σ H1 fun x H2=>ty σ H2 fun y H3=>∃ a H4,x=.ref a∧DPut H3 a y v H4∧D.nx σ H4
section
variable {X:Cx}{o i e value:Expr}{pos pos' tpos:Pos}{td ty tv:TE}
theorem c75 (hu:X.A.units+1<cLine) (hi:PE X i ty) (ho:PE X o td):PC X .In i o (tDIn ty td):=by
 intro pins s σ H Q I h
 refine thn (hi pins s σ H _ I h) fun iv s1 ⟨y,H1,I1,ry,q1⟩=>thn (ho pins s1 σ H1 _ I1 q1) fun u s2 ⟨x,H2,I2,rx,a,ov,ex,g,q2⟩=>?_
 subst ex
 obtain rfl:u=Value.ref a:=rx
 exact d_in hu I2 g ry fun s3 I3=>⟨.bl ov.isSome,H2,I3,rfl,q2⟩
theorem bw2 (hu:X.A.units+1<cLine) (ho:PE X o td) (hi:PE X i ty) (hv:PE X value tv) (hs:swapsWith value (some (.Subscript o i pos')) pos.line X.env=pure false) :
 PS X (.Assign [.Subscript o i pos'] value pos) (sDPut td ty tv):=by
 intro pins s σ H D I h
 refine wpAny_Assign_Subscript (thn (hv pins s σ H _ I h) fun r s1 ⟨v,H1,I1,rv,q1⟩=>thn (ho pins s1 σ H1 _ I1 q1) fun u s2 ⟨x,H2,I2,rx,q2⟩=>thn (hi pins s2 σ H2 _ I2 q2) fun iv s3 ⟨y,H3,I3,ry,a,H4,ex,g,q3⟩=>?_) hs
 subst ex
 obtain rfl:u=Value.ref a:=rx
 exact bd5 hu I3 g ry rv fun s4 I4=>⟨σ,H4,I4,q3⟩
end
theorem bm9 {P:Program}{w:World}{H:Hp}(h:Heap) (hb:sysModules<h.objs.size):ObjOk P w H (h.push { cls:=.type "dict",data:=.dict #[] }) h.objs.size (.dK []) :=
 ⟨Nat.zero_le _,beq_eq_false_iff_ne.mpr (Ne.symm (Nat.ne_of_lt hb)),[],.nil,Heap.DictOf.new h⟩
section
variable {X:Cx}{pos:Pos}
end
def tPairs:List (TE×TE)→St→Hp→(List (V×V)→Hp→Prop)→Prop
 | [],_,H,Q=>Q [] H
 | (tk,tv)::r,σ,H,Q=>tk σ H fun x H1=>tv σ H1 fun y H2=>tPairs r σ H2 fun ps H3=>Q ((x,y)::ps) H3
abbrev VV:List (V×V)→List (Value×Value)→Prop:=Paired fun p q=>RelV p.1 q.1∧RelV p.2 q.2
def PPs (X:Cx) (pos:Pos) (keys:List (Option Expr)) (values:List Expr) (trs:List (TE×TE)):Prop :=
 ∀ (pins:List (Addr×Obj)) (s:Shared) (σ:St) (H:Hp) (Q:List (V×V)→Hp→Prop),Inv X pins σ H s→tPairs trs σ H Q →
  wpAny (model X.prog X.w) X.A (evalPairs (pairTrees keys values X.env pos)) (fun vs s'=>∃ ps H',Inv X pins σ H' s'∧VV ps vs∧Q ps H') X.xe s
theorem bw3 {X:Cx}{pos:Pos}:PPs X pos [] [] []:=fun pins s σ H Q I h=>pairTrees_nil_walk ⟨[],H,I,.nil,h⟩
theorem bn0 {X:Cx}{pos:Pos}{k v:Expr}{ks:List (Option Expr)}{vs:List Expr}{tk tv:TE}{trs:List (TE×TE)}(hk:PE X k tk) (hv:PE X v tv) (hr:PPs X pos ks vs trs) :
 PPs X pos (some k::ks) (v::vs) ((tk,tv)::trs):=fun pins s σ H Q I h =>
 pairTrees_cons_walk (thn (hk pins s σ H _ I h) fun u s1 ⟨x,H1,I1,rx,q1⟩=>thn (hv pins s1 σ H1 _ I1 q1) fun w2 s2 ⟨y,H2,I2,ry,q2⟩ =>
  thn (hr pins s2 σ H2 _ I2 q2) fun ws s3 ⟨ps,H3,I3,rel,q3⟩=>⟨(x,y)::ps,H3,I3,.cons ⟨rx,ry⟩ rel,q3⟩)
def mergeK (kvs more:List (Key×V)):List (Key×V):=more.foldl (fun acc kv=>putK acc kv.1 kv.2) kvs
theorem KV.merge:∀ {more:List (Key×V)}{rs:List (Key×Value)}{kvs:List (Key×V)}{vs:List (Key×Value)},KV more rs→KV kvs vs→KV (mergeK kvs more) (merged vs rs):=by
 intro more rs kvs vs r
 unfold KV at r
 induction r generalizing kvs vs with
 | nil=>intro q; exact q
 | @cons p q ps qs h t ih =>
   intro r0
   have e:KV (putK kvs p.1 p.2) (stored vs q.1 q.2):=by
    have:=r0.put p.1 h.2
    rw [← h.1]; exact this
   exact ih e
theorem aj1:∀ (more kvs:List (Key×V)),(mergeK kvs more).length≤kvs.length+more.length
 | [],kvs=>by show kvs.length≤kvs.length+0; omega
 | p::r,kvs=>by
   have h1:=aj1 r (putK kvs p.1 p.2)
   have h2:=a98 kvs p.1 p.2
   show (mergeK (putK kvs p.1 p.2) r).length≤_
   rw [List.length_cons]; omega
theorem ap7 {P:Program}{w:World}:∀ {kvs:List (Key×V)}{ws:List (Value×Value)},VV (kvs.map fun kv=>(kV kv.1,kv.2)) ws→∃ rs,Carries (mixKind P w) ws rs∧KV kvs rs
 | [],_,r=>by rw [List.map_nil] at r; cases r; exact ⟨[],True.intro,.nil⟩
 | p::kvs,_,r=>by
   rw [List.map_cons] at r
   cases r with
   | @cons a b as bs h t =>
     obtain ⟨rs,c,q⟩:=ap7 (P:=P) (w:=w) t
     obtain ⟨b1,b2⟩:=b
     exact ⟨(p.1,b2)::rs,⟨bm8 h.1,rfl,c⟩,.cons ⟨rfl,h.2⟩ q⟩
def tDisp (trs:List (TE×TE)):TE:=fun σ H Q=>∀ p,H p=none→tPairs trs σ (upd H p (.dK [])) fun ps H2=>H2 p=some (.dK [])∧∃ kvs:List (Key×V),ps=kvs.map (fun kv=>(kV kv.1,kv.2))∧kvs.length≤15∧Q (.ref p) (upd H2 p (.dK (mergeK [] kvs)))
theorem bw4 {X:Cx}{pos:Pos}{keys:List (Option Expr)}{values:List Expr}{trs:List (TE×TE)}(h:PPs X pos keys values trs) (hall:keys.all (·.isSome)=true) (hl:keys.length=values.length) (h0:keys≠[])
 (h15:keys.length≤15):PE X (.Dict keys values pos) (tDisp trs):=by
 intro pins s σ H Q I q
 have hn:=I.hok.fresh (Nat.le_refl s.heap.objs.size)
 have I1:=I.laid (a:=s.heap.objs.size) (o:=.dK []) (h':=s.heap.push { cls:=.type "dict",data:=.dict #[] }) (t':=s.toks) (fun _ _ q=>gP _ q) (Nat.le_refl _) (bm9 s.heap I.big)
 refine wpAny_Dict_walk (knd:=mixKind X.prog X.w) hall hl h0 h15 (thn (h pins _ σ _ _ I1 (q _ hn)) fun ws s2 ⟨ps,H2,I2,rel,e,kvs,ep,lk,q2⟩=>?_)
 subst ep
 obtain ⟨rs,c,rk⟩:=ap7 (P:=X.prog) (w:=X.w) rel
 obtain ⟨z,hd,vs0,r0,dd⟩:=c73 I2.hok e
 cases r0
 refine ⟨rs,c,dd,fun h' dd' hs=>⟨.ref s.heap.objs.size,_,?_,rfl,q2⟩⟩
 have hz:(mergeK [] kvs).length≤sizeLine:=by
  have h1:=aj1 kvs []
  rw [List.length_nil] at h1
  rw [sizeLine_eq]; omega
 have he:∃ q,h'.get? s.heap.objs.size=some q:=let ⟨q,_,_,hq,_⟩:=dd'; ⟨q,hq⟩
 exact ak3 I2 (by rw [e]; exact True.intro) hs he (bt7 hz hd (rk.merge .nil) dd')
structure M2 (X:Cx) (o:Expr) (m:Str) (apos:Pos) (e f:Expr) (cpos:Pos):Prop where
 base:attributeBase o m X.env (eval o X.env)=eval o X.env
 few:((backTo cpos (starEach [e,f] X.env)).all (fun x=>!x.1) && (backToKw cpos (keywordEach [] X.env)).all (fun x=>x.1.isSome)
  && decide (([e,f]:List Expr).length+([]:List Keyword).length+(if ([]:List Keyword).isEmpty then 0 else 1)<30))=true
 line:(apos.endLine == cpos.line)=true
 trees:backTo cpos (starEach [e,f] X.env)=[(false,eval e X.env),(false,eval f X.env)]
section
variable {X:Cx}{pins:List (Addr×Obj)}{σ:St} {H:Hp}{s:Shared}{a:Addr}{y d:V}{u r:Value}{o:Option V}{A:Around}{E:Value→Shared→Prop}
end
section
variable {X:Cx}{o e f:Expr}{apos cpos:Pos}{td ty tx:TE}
end
section
variable {X:Cx}{pins:List (Addr×Obj)}{σ:St} {H:Hp}{s:Shared}{a:Addr}{kvs:List (Key×V)}{A:Around}{E:Value→Shared→Prop}
end
section
variable {X:Cx}{pins:List (Addr×Obj)}{σ:St} {H:Hp}{s:Shared}{a:Addr}{y:V}{u:Value}{A:Around}{E:Value→Shared→Prop}
end
section
variable {κ:Type} [DecidableEq κ]
theorem bn1 {kvs:List (κ×V)}{k:κ}(h:valV kvs k=none):¬ k∈kvs.map (·.1):=by
 intro m
 obtain ⟨p,hp,e⟩:=List.mem_map.mp m
 have q:(kvs.any fun kv=>decide (kv.1=k))=true:=List.any_eq_true.mpr ⟨p,hp,decide_eq_true e⟩
 rw [ah8,h] at q
 exact absurd q (by simp)
theorem ay5:∀ {l:List κ}{k:κ},l.Nodup→¬ k∈l→(l++[k]).Nodup
 | [],k,_,_=>by simp
 | a::r,k,h,hk=>by
   obtain ⟨h1,h2⟩:=List.nodup_cons.mp h
   show (a::(r++[k])).Nodup
   refine List.nodup_cons.mpr ⟨fun m=>?_,ay5 h2 fun m=>hk (List.mem_cons.mpr (Or.inr m))⟩
   rcases gA m with q | q
   · exact h1 q
   · exact hk (List.mem_cons.mpr (Or.inl (gG q).symm))
end
def cxC (X:Cx) (N:List Str) (scope:Scope) (cl:List (Str×Addr)) (C:Addr) (s0:Shared) (H0:Hp) (ex:List Addr):Cx :=
 { X with N:=N,s₀:=s0,H₀:=H0,env:=compEnvC scope cl C X.env,outer:=X.stack,stack:=X.stack,ex:=ex,fn:=fun _=>false,pn:=[],xe:=fun _ _=>False }
theorem ap8 {env : Env} (has : ∀ x, (env.kindOf x = some .cell ∨ env.kindOf x = some .free) → ∃ c, env.cells.lookup x = some c) {scope : Scope}
    (hf : ∀ y ∈ scope.names, y.2 = .free → env.kindOf y.1 = some .cell ∨ env.kindOf y.1 = some .free) :
    ∃ cl, closureFor scope env = pure cl ∧ (∀ x c, cl.lookup x = some c → env.cells.lookup x = some c) ∧ (∀ y ∈ scope.names, y.2 = .free → ∃ c, cl.lookup y.1 = some c) := by
  have gen : ∀ (names : List (Str × NameKind)) (cs : List (Str × Addr)), (∀ y ∈ names, y.2 = .free → env.kindOf y.1 = some .cell ∨ env.kindOf y.1 = some .free) →
      (∀ x c, cs.lookup x = some c → env.cells.lookup x = some c) →
      ∃ cl, (forIn (m := Sem) names cs fun p r => do
          match p with
          | (name, kind) => if kind == .free then do let c ← cellOf env name; pure (ForInStep.yield ((name, c) :: r)) else pure (ForInStep.yield r)) = pure cl ∧
        (∀ x c, cl.lookup x = some c → env.cells.lookup x = some c) ∧ (∀ x c, cs.lookup x = some c → ∃ c, cl.lookup x = some c) ∧ (∀ y ∈ names, y.2 = .free → ∃ c, cl.lookup y.1 = some c) := by
    intro names
    induction names with
    | nil => intro cs _ h; exact ⟨cs, rfl, h, fun x c e => ⟨c, e⟩, fun y hy => nomatch hy⟩
    | cons p r ih =>
      intro cs hp h
      obtain ⟨n, k⟩ := p
      by_cases hk : k = .free
      · subst hk
        obtain ⟨c, hc⟩ := has n (hp (n, .free) List.mem_cons_self rfl)
        have h' : ∀ x d, ((n, c) :: cs).lookup x = some d → env.cells.lookup x = some d := by
          intro x d e
          rw [List.lookup_cons] at e
          cases hx : x == n with
          | true =>
            rw [hx] at e
            have : x = n := by simpa using hx
            cases e; rw [this]; exact hc
          | false => rw [hx] at e; exact h x d e
        obtain ⟨cl, e1, e2, e3, e4⟩ := ih ((n, c) :: cs) (fun y hy => hp y (List.mem_cons_of_mem _ hy)) h'
        have hn : ∃ d, cl.lookup n = some d := e3 n c (by simp [List.lookup_cons])
        refine ⟨cl, ?_, e2, fun x d e => ?_, fun y hy hyk => ?_⟩
        · rw [List.forIn_cons]
          have : cellOf env n = pure c := by unfold cellOf; rw [hc]
          simp only [beq_self_eq_true, if_true, this]
          exact e1
        · by_cases hx : x = n
          · subst hx; exact hn
          · exact e3 x d (by rw [List.lookup_cons]; have : (x == n) = false := by simpa using hx
                             rw [this]; exact e)
        · rcases List.mem_cons.mp hy with rfl | hy
          · exact hn
          · exact e4 y hy hyk
      · obtain ⟨cl, e1, e2, e3, e4⟩ := ih cs (fun y hy => hp y (List.mem_cons_of_mem _ hy)) h
        refine ⟨cl, ?_, e2, e3, fun y hy hyk => ?_⟩
        · rw [List.forIn_cons]
          have : (k == NameKind.free) = false := by simpa using hk
          simp only [this]
          exact e1
        · rcases List.mem_cons.mp hy with rfl | hy
          · exact absurd hyk hk
          · exact e4 y hy hyk
  obtain ⟨cl, e1, e2, _, e4⟩ := gen scope.names [] hf (fun x c e => nomatch e)
  refine ⟨cl, ?_, e2, e4⟩
  unfold closureFor
  simp only []
  exact congrArg (· >>= fun cs => pure cs) e1 |>.trans rfl
theorem av0 {scope:Scope}{env:Env}{x:Str}{k:NameKind}(h:(relabel scope env).names.lookup x=some k) (hk:k=.cell∨k=.free) (nc:∀ y∈scope.names,y.2≠.cell):∃ y∈scope.names,y.1=x∧y.2=.free:=by
 have gen:∀ names:List (Str×NameKind),(names.map fun (n,k)=>if (k == NameKind.free && env.scope.kind == .function && env.kindOf n == some .cell) then (n,NameKind.cell) else (n,k)).lookup x=some k→(∀ y∈names,y.2≠.cell) →
  ∃ y∈names,y.1=x∧y.2=.free:=by
  intro names
  induction names with
  | nil=>intro h _; cases h
  | cons p r ih =>
    obtain ⟨n,j⟩:=p
    intro h nc
    rw [List.map_cons,List.lookup_cons] at h
    have e1:(if (j == NameKind.free && env.scope.kind == .function && env.kindOf n == some .cell)=true then (n,NameKind.cell) else (n,j)).1=n:=by split <;> rfl
    dsimp only at h
    rw [e1] at h
    cases hx:x == n with
    | false =>
      rw [hx] at h
      obtain ⟨y,hy,q⟩:=ih h fun y hy=>nc y (List.mem_cons_of_mem _ hy)
      exact ⟨y,List.mem_cons_of_mem _ hy,q⟩
    | true =>
      rw [hx] at h
      have ex:x=n:=by simpa using hx
      have hj:j=.free:=by
       by_cases hc:(j == NameKind.free && env.scope.kind == .function && env.kindOf n == some .cell)=true
       · have:=(Bool.and_eq_true _ _).mp ((Bool.and_eq_true _ _).mp hc).1
         simpa using this.1
       · rw [if_neg hc] at h
         cases h
         rcases hk with z | z
         · exact absurd z (nc (n,j) List.mem_cons_self)
         · exact z
      exact ⟨(n,j),List.mem_cons_self,ex.symm,hj⟩
 exact gen scope.names h nc
section
variable {X:Cx}{pins:List (Addr×Obj)}{σ:St} {H:Hp}{s:Shared}{N:List Str}{scope:Scope}{cl:List (Str×Addr)}{C:Addr}{ex:List Addr}
theorem c76 (I:Inv X pins σ H s) (hC:s.heap.objs.size≤C) (hkind:scope.kind=.function) (nc:∀ y∈scope.names,y.2≠.cell)
 (hcl:∀ x c,cl.lookup x=some c→X.env.cells.lookup x=some c) (hcf:∀ y∈scope.names,y.2=.free→∃ c,cl.lookup y.1=some c)
 (hex:∀ b∈ex,FpOk X pins H b) (hexl:∀ b∈ex,b<s.heap.objs.size):(cxC X N scope cl C s H ex).Ok where
 mod:=I.ok.mod
 kind:=hkind
 glob:=I.ok.glob
 blt:=I.ok.blt
 above:=hC
 inj:=fun x y c h1 h2=>I.ok.inj x y c (hcl x c h1) (hcl y c h2)
 has:=fun x hx=>by
  have hx':∃ k,(relabel scope X.env).names.lookup x=some k∧(k=.cell∨k=.free):=by
   rcases hx with h | h
   · exact ⟨_,h,.inl rfl⟩
   · exact ⟨_,h,.inr rfl⟩
  obtain ⟨k,h,hk⟩:=hx'
  obtain ⟨y,hy,e1,e2⟩:=av0 h hk nc
  rw [← e1]
  exact hcf y hy e2
 cab:=fun x c h=>by cases h
 hd:=I.ok.hd
 frames:=I.ok.frames
 stk:=.inl rfl
 exf:=fun b hb=>⟨Nat.ne_of_lt (Nat.lt_of_lt_of_le (hexl b hb) hC),fun x c e=>(hex b hb).2.2.2.2.1 x c (hcl x c e)⟩
 bs:=I.bs
 bsz:=Nat.le_trans I.ok.bsz I.sz
 noex:=fun b o e hb=>by
  rcases (hex b hb).2.2.2.1 with z | z
  · exact I.ok.noex b o e z
  · have h1:=Heap.lt_size e
    have h2:=I.ok.bsz
    exact absurd (Nat.lt_of_lt_of_le h1 (Nat.le_trans h2 z)) (Nat.lt_irrefl _)
 exfs:=fun b hb z=>by
  have h1:=I.stkSub b z
  rcases List.mem_cons.mp h1 with z | z
  · exact (hex b hb).2.1 z
  · exact (hex b hb).2.2.1 z
 funs:=I.stack
 frf:=I.stkFree
def capV (caps:List Nat) (σ:St):St:=caps.map fun j=>(σ[j]?).join
def cSt (n:Nat) (caps:List Nat) (σ:St):St:=List.replicate n none++capV caps σ
theorem bw5 {caps:List Nat}{Nt Nf:List Str}{s1:Shared}{m:Str→Option Value}(I:Inv X pins σ H s) (ok:(cxC X (Nt++Nf) scope cl C s H ex).Ok)
 (hcl:∀ x c,cl.lookup x=some c→X.env.cells.lookup x=some c)
 (hcap:caps.map (fun j=>X.N[j]?)=Nf.map some)
 (hvis:∀ x∈Nf,scope.names.lookup x=some .free) (hXv:∀ x∈Nf,X.env.kindOf x=some .cell∨X.env.kindOf x=some .free) (hcf:∀ x∈Nf,∃ c,cl.lookup x=some c)
 (hos:s1.os=s.os) (hgens:s1.gens=s.gens) (hk:∀ b o,s.heap.get? b=some o→s1.heap.get? b=some o) (hns:s1.heap.Ns C m) (hC:s.heap.objs.size≤C) :
 Inv (cxC X (Nt++Nf) scope cl C s H ex) [] (cSt Nt.length caps σ) H s1:=by
 have hlen:caps.length=Nf.length:=by
  have:=congrArg List.length hcap
  simpa using this
 refine ⟨ok,hos,by rw [hgens]; exact I.bare,Un.kept hk,⟨m,hns,fun i x v h1 h2 h3=>?_⟩,fun x c e=>?_,I.hok.fresh hC,fun x c e=>I.freeC x c (hcl x c e),fun p hp=>absurd (show p∈([]:List (Addr×Obj)) from hp) (by simp),I.hok.kept hk,?_⟩
 · -- a captured name
   have hi:Nt.length≤i:=by
    refine Nat.le_of_not_lt fun q=>?_
    unfold cSt at h2
    rw [List.getElem?_append_left (by simpa using q),List.getElem?_replicate] at h2
    split at h2 <;> cases h2
   have h1':Nf[i - Nt.length]?=some x:=by
    have:(Nt++Nf)[i]?=some x:=h1
    rwa [List.getElem?_append_right hi] at this
   unfold cSt at h2
   rw [List.getElem?_append_right (by simpa using hi)] at h2
   have e0:i - (List.replicate Nt.length (none:Option V)).length=i - Nt.length:=by simp
   rw [e0] at h2
   generalize hj:i - Nt.length=j at h1' h2
   unfold capV at h2
   rw [gM] at h2
   cases hc:caps[j]? with
   | none=>rw [hc] at h2; cases h2
   | some jj =>
     rw [hc] at h2
     have h2':(σ[jj]?).join=some v:=Option.some.inj h2
     have h2'':σ[jj]?=some (some v):=by
      cases q:σ[jj]? with
      | none=>rw [q] at h2'; cases h2'
      | some z=>rw [q] at h2'; cases z with
        | none=>cases h2'
        | some z'=>cases h2'; rfl
     have hN:X.N[jj]?=some x:=by
      have q:=congrArg (fun l=>l[j]?) hcap
      simp only [gM,hc,h1',Option.map_some] at q
      exact Option.some.inj q
     have hx:x∈Nf:=gI h1'
     have hXk:=hXv x hx
     obtain ⟨mX,_,hl⟩:=I.loc
     obtain ⟨u,ru,lk⟩:=hl jj x v hN h2'' (by
      rcases hXk with z | z
      · exact .inr (.inl z)
      · exact .inr (.inr z))
     refine ⟨u,ru,.inr ?_⟩
     rcases lk with ⟨z,_⟩ | ⟨_,c,hc1,hcell⟩
     · rcases hXk with y | y <;> (rw [z] at y; cases y)
     · obtain ⟨c',hc'⟩:=hcf x hx
       have e:=hcl x c' hc'
       rw [hc1] at e; cases e
       refine ⟨?_,c,hc',?_⟩
       · rcases h3 with z | z | z
         · -- not a local of the block
           exfalso
           have hfree:=hvis x hx
           have z':(relabel scope X.env).names.lookup x=some .local:=z
           have gen:∀ names:List (Str×NameKind),names.lookup x=some .free→(names.map fun (n,k)=>if (k == NameKind.free && X.env.scope.kind == .function && X.env.kindOf n == some .cell) then (n,NameKind.cell) else (n,k)).lookup x≠some .local:=by
            intro names
            induction names with
            | nil=>intro h; cases h
            | cons p r ih =>
              obtain ⟨n,k⟩:=p
              intro h
              rw [List.map_cons,List.lookup_cons]
              rw [List.lookup_cons] at h
              have e1:(if (k == NameKind.free && X.env.scope.kind == .function && X.env.kindOf n == some .cell)=true then (n,NameKind.cell) else (n,k)).1=n:=by split <;> rfl
              dsimp only
              rw [e1]
              cases hx:x == n with
              | false=>rw [hx] at h; exact ih h
              | true =>
                rw [hx] at h
                cases h
                show some (if _ then (n,NameKind.cell) else (n,NameKind.free)).2≠some .local
                split <;> (intro q; cases q)
           exact gen scope.names hfree z'
         · exact .inl z
         · exact .inr z
       · obtain ⟨o,eo,d⟩:=hcell
         exact ⟨o,hk _ _ eo,d⟩
 · obtain ⟨v,q⟩:=I.cell x c (hcl x c e)
   obtain ⟨o,eo,d⟩:=q
   exact ⟨v,o,hk _ _ eo,d⟩
 · show (cSt Nt.length caps σ).length=(Nt++Nf).length
   unfold cSt capV
   simp [hlen]
end
abbrev askIfs (ifs:List Expr) (env:Env):Sem Bool:=forIn ifs true fun c r=>if r=true then do let ok←isTrue c env (eval c env); pure (ForInStep.yield ok) else pure (ForInStep.yield r)
abbrev NoX:Value→Shared→Prop:=fun _ _=>False
theorem av1 {P:Program}{w:World}{B:Around}{R:Result→Shared→Prop}{s:Shared}{y tg l:Expr}{cs:List Expr}{sc:Scope}{ps:Pos}{iv av:Value}{en:Env}(G:Nat→Shared→Prop)
 (one:∀ n s,G n s→wpAny (model P w) B (pyNext iv) (fun r s1=>match r with
  | none=>R (.ok .next) s1
  | some v=>wpAny (model P w) B (letOwnedTupleGo tg iv v) (fun _ s1=>wpAny (model P w) B (assign tg en v) (fun _ s2=>wpAny (model P w) B (askIfs cs en) (fun k s3 =>
   if k=true then wpAny (model P w) B (eval y en) (fun x s4=>wpAny (model P w) B (call (.builtin "list.append") [av,x]) (fun _ s5=>∃ m,m<n∧G m s5) NoX s4) NoX s3
   else ∃ m,m<n∧G m s3) NoX s2) NoX s1) NoX s1) NoX s) (n:Nat) (h:G n s) :
 codeAny (model P w) B (.compLoop (.ListComp y [⟨tg,l,cs,0⟩] sc ps) 0 iv av en) R s:=by
 refine codeAny_loop rfl G (fun n s hG=>?_) n h
 show wpAny _ B ((compTurn (.ListComp y [⟨tg,l,cs,0⟩] sc ps) 0 iv av en).onRaise (fun x=>do noteFrame x en; theTreesLotGoes x)) _ _ s
 refine wpAny_noted ?_
 rw [compTurn_list]
 refine wB (wpAny_standAt (wB (wpAny_mono (one n s hG) (fun r s1 h1=>?_) fun _ _ z=>z.elim)))
 cases r with
 | none=>exact wpAny_pure h1
 | some v =>
   refine wB (wpAny_mono h1 (fun _ s1' h1'=>?_) fun _ _ z=>z.elim)
   refine wB (wpAny_mono h1' (fun _ s2 h2=>wB (wpAny_mono h2 (fun k s3 h3=>?_) fun _ _ z=>z.elim)) fun _ _ z=>z.elim)
   cases k with
   | false=>exact wpAny_pure ⟨rfl,h3⟩
   | true=>exact wB (wB (wpAny_mono h3 (fun x s4 h4=>wB (wpAny_mono h4 (fun _ s5 h5=>wpAny_pure (wpAny_pure ⟨rfl,h5⟩)) fun _ _ z=>z.elim)) fun _ _ z=>z.elim))
def PTs (X:Cx) (ifs:List Expr) (t:TT):Prop :=
 ∀ (pins:List (Addr×Obj)) (s:Shared) (σ:St) (H:Hp) (Q:Bool→Hp→Prop),Inv X pins σ H s→t σ H Q →
  wpAny (model X.prog X.w) X.A (askIfs ifs X.env) (TP X pins σ Q) X.xe s
def tNoIf:TT:=fun _ H Q=>Q true H
theorem ab5 {X:Cx}:PTs X [] tNoIf:=fun pins s σ H Q I h=>wpAny_tests_nil ⟨H,I,h⟩
theorem bw6 {X:Cx}{c:Expr}{t:TT}(h:PT X c t):PTs X [c] t:=fun pins s σ H Q I q=>wpAny_tests_one (h pins s σ H Q I q)
section
variable {X:Cx}{pins:List (Addr×Obj)}{σ:St} {H:Hp}{s:Shared}
theorem Inv.adopt {D:Addr}{o:HO}(I:Inv X pins σ H s) (hD:H D=none) (h1:X.s₀.heap.objs.size≤D) (h2:D≠X.env.locals) (h3:∀ x c,X.env.cells.lookup x=some c→c≠D) (h4:∀ p∈X.pn++pins,p.1≠D)
 (new:ObjOk X.prog X.w (upd H D o) s.heap D o):Inv X pins σ (upd H D o) s:=by
 have old:∀ {b:Addr}{q:Obj},X.s₀.heap.get? b=some q→b≠D:=fun e=>Nat.ne_of_lt (Nat.lt_of_lt_of_le (Heap.lt_size e) h1)
 refine ⟨I.ok,I.os,I.bare,⟨I.base.keep,I.base.slot,fun b q e n hx=>by rw [a09 (old e)]; exact I.base.free b q e n hx,I.base.there,fun b xs e=>?_,fun b q u e=>?_,fun b ps e=>?_⟩,I.loc,I.cell,by rw [a09 (Ne.symm h2)]; exact I.free,fun x c e=>by rw [a09 (h3 x c e)]; exact I.freeC x c e,fun p hp=>?_,fun b u e=>?_,I.len⟩
 · have e':=I.base.tups b xs e
   rw [a09 (a05 e' hD)]; exact e'
 · have e':=I.base.frzs b q u e
   rw [a09 (a05 e' hD)]; exact e'
 · obtain ⟨more,e'⟩:=I.base.tbls b ps e
   exact ⟨more,by rw [a09 (a05 e' hD)]; exact e'⟩
 · obtain ⟨a1,a2,a3,a4,a5⟩:=I.pin p hp
   exact ⟨a1,by rw [a09 (h4 p hp)]; exact a2,a3,a4,a5⟩
 · by_cases hb:b=D
   · subst hb; rw [a41] at e; cases e; exact new
   · rw [a09 hb] at e
     exact (I.hok b u e).stay (fun c v _ q=>q) (fun c q=>by rw [a09 (a05 q hD)]; exact q) fun c xs q=>by rw [a09 (a05 q hD)]; exact q
def tLC (wi:TI) (g:TG) (tt:TT) (te:TE) (n:Nat) (caps:List Nat):TE:=fun σ H Q=>wi σ H fun J H1=>∃ W:Nat→Nat→List V→St→Hp→Prop,(∃ m,W 0 m [] (cSt n caps σ) H1)∧∀ i m acc σ' H',W i m acc σ' H' →
 (J.stop i H'∧∀ l,H' l=none→Q (.ref l) (upd H' l (.lst acc))) ∨
 (J.go i H'∧acc.length<sizeLine∧∃ N:List V→St→Hp→Prop,(∀ ac σ2 H2,N ac σ2 H2→∃ m',m'<m∧W (i+1) m' ac σ2 H2)∧∀ x H2,J.yld i H' x H2→g x σ' H2 fun σ3 H3=>tt σ3 H3 fun b H4=>if b=true then te σ3 H4 fun y H5=>N (acc++[y]) σ3 H5 else N acc σ3 H4)
structure CompOk (X:Cx) (scope:Scope) (Nt Nf:List Str) (caps:List Nat):Prop where
 kind:scope.kind=.function
 nc:∀ y∈scope.names,y.2≠.cell
 nm:∀ y∈scope.names,y.2=.local→scope.names.lookup y.1=some .local
 fr:∀ y∈scope.names,y.2=.free→X.env.kindOf y.1=some .cell∨X.env.kindOf y.1=some .free
 cap:caps.map (fun j=>X.N[j]?)=Nf.map some
 vis:∀ x∈Nf,scope.names.lookup x=some .free
theorem ap9 {tg iter elt:Expr}{ifs:List Expr}{scope:Scope}{pos:Pos}{g:TG}{tt:TT}{te:TE}{Nt Nf:List Str}{caps:List Nat}{cl:List (Str×Addr)}{it:Addr}{fp:List Addr}{tn:Nat→Heap→Prop}{J:It}{Q:VK}{E:Value→Shared→Prop}
 {RR:Value→Addr→Result→Shared→Prop}
 (hc:X.calm=true) (S:CompOk X scope Nt Nf caps)
 (hg:∀ cl C s0 H0 ex,PG (cxC X (Nt++Nf) scope cl C s0 H0 ex) tg g)
 (ht:∀ cl C s0 H0 ex,PTs (cxC X (Nt++Nf) scope cl C s0 H0 ex) ifs tt)
 (he:∀ cl C s0 H0 ex,PE (cxC X (Nt++Nf) scope cl C s0 H0 ex) elt te)
 (hcl:∀ x c,cl.lookup x=some c→X.env.cells.lookup x=some c) (hcf:∀ y∈scope.names,y.2=.free→∃ c,cl.lookup y.1=some c)
 (I:Inv X pins σ H s) (T:Turn X.prog X.w X.K tg J fp it tn) (st:tn 0 s.heap) (hfp:∀ b∈fp,FpOk X pins H b)
 (hW:∃ W:Nat→Nat→List V→St→Hp→Prop,(∃ m,W 0 m [] (cSt Nt.length caps σ) H)∧∀ i m acc σ' H',W i m acc σ' H' →
  (J.stop i H'∧∀ l,H' l=none→Q (.ref l) (upd H' l (.lst acc))) ∨
  (J.go i H'∧acc.length<sizeLine∧∃ N:List V→St→Hp→Prop,(∀ ac σ2 H2,N ac σ2 H2→∃ m',m'<m∧W (i+1) m' ac σ2 H2)∧∀ x H2,J.yld i H' x H2→g x σ' H2 fun σ3 H3=>tt σ3 H3 fun b H4=>if b=true then te σ3 H4 fun y H5=>N (acc++[y]) σ3 H5 else N acc σ3 H4))
 (fin:∀ D C m s' H',Inv X pins σ H' s'→Q (.ref D) H'→s'.heap.Ns C m→H' C=none→C≠X.env.locals→X.s₀.heap.objs.size≤C→(∀ x c,X.env.cells.lookup x=some c→c≠C)→(∀ p∈X.pn++pins,p.1≠C)→RR (.ref D) C (.ok .next) s') :
 wpAny (model X.prog X.w) X.A (newList []) (fun acc s₃=>wpAny (model X.prog X.w) X.A (newFunctionEnv scope X.env.globals cl [] X.env.qual none .none (some X.env)) (fun cenv s₄ =>
  codeAny (model X.prog X.w) X.A (.compStart (.ListComp elt [⟨tg,iter,ifs,0⟩] scope pos) 0 (.ref it) acc { cenv with scope:=relabel scope X.env }) (RR acc cenv.locals) s₄) E s₃) E s:=by
 obtain ⟨W,⟨m0,w0⟩,turn⟩:=hW
 refine wpAny_newObj_type (wpAny_newFunctionEnv S.nc (by intro y hy; simp at hy) (fun h₁ hns₁ hsb₁=>?_) S.kind)
 dsimp only at hns₁ hsb₁ ⊢
 generalize hH2:s.heap.push { cls:=.type "list",dict:=none,data:=.seq ([]:List Value).toArray }=P2 at hns₁ hsb₁ ⊢
 have hCs:P2.objs.size=s.heap.objs.size+1:=by rw [← hH2,Heap.size_push]
 have hDC:s.heap.objs.size≠P2.objs.size:=by rw [hCs]; exact Nat.ne_of_lt (Nat.lt_succ_self _)
 have hCle:s.heap.objs.size≤P2.objs.size:=by rw [hCs]; exact Nat.le_succ _
 have below:∀ b,b<s.heap.objs.size→b≠P2.objs.size:=fun b hb=>by rw [hCs]; exact Nat.ne_of_lt (Nat.lt_succ_of_lt hb)
 have old:∀ b o,s.heap.get? b=some o→h₁.get? b=some o:=fun b o e=>hsb₁.extBut b o (below b (Heap.lt_size e)) (gP _ (hH2 ▸ gP _ e))
 have hacc:h₁.PlainList s.heap.objs.size #[]:=⟨_,hsb₁.extBut _ _ hDC (gP _ (hH2 ▸ Heap.get?_push_size _ rfl))⟩
 have fpl:∀ b∈fp,b<s.heap.objs.size:=fun b hb=>by
  obtain ⟨o,e,_⟩:=T.obj _ _ st b hb
  exact Heap.lt_size e
 have st₁:tn 0 h₁:=T.keep _ _ _ st fun b _ o e=>old b o e
 generalize hCe:P2.objs.size=C at hns₁ hsb₁ hDC hCle below ⊢
 generalize hDe:s.heap.objs.size=D at hacc hDC hCle ⊢
 have hDl:X.env.locals<D:=by rw [← hDe]; exact I.lt
 have hDs:X.s₀.heap.objs.size≤D:=by rw [← hDe]; exact I.sz
 have hcD:∀ x c,X.env.cells.lookup x=some c→c<D:=fun x c e=>by
  obtain ⟨v,q⟩:=I.cell x c e
  rw [← hDe]; exact q.lt
 have hpD:∀ p∈X.pn++pins,p.1<D:=fun p hp=>by rw [← hDe]; exact Heap.lt_size (I.pin p hp).1
 let Y:Cx:=cxC X (Nt++Nf) scope cl C s H fp
 have okY:Y.Ok:=c76 I (by rw [hDe]; exact hCle) S.kind S.nc hcl hcf hfp fpl
 have hfsY:∀ b,b∈Y.fs→b<D:=fun b hb=>by
  rcases List.mem_cons.mp (I.stkSub b hb) with z | z
  · rw [z]; exact hDl
  · refine Nat.lt_of_lt_of_le ?_ hDs
    have:=(I.ok.funs.mem z)
    refine Nat.lt_of_not_le fun q=>?_
    exact absurd z (fun z=>by
     have:=I.nofs (a:=b)
     by_cases hb2:s.heap.objs.size≤b
     · exact this hb2 z
     · obtain ⟨_,o,e,_⟩:=I.ok.funs.mem z
       exact absurd (Heap.lt_size e) (Nat.not_lt.mpr q))
 have loop:∀ s₃:Shared,s₃={ s with heap:=h₁,toks:=s.toks+([]:List (Str×Value)).length } →
  codeAny (model X.prog X.w) X.A (.compLoop (.ListComp elt [⟨tg,iter,ifs,0⟩] scope pos) 0 (.ref it) (.ref D) Y.env) (RR (.ref D) C) s₃:=by
  rintro s₃ rfl
  have I0:Inv Y [] (cSt Nt.length caps σ) H { s with heap:=h₁,toks:=s.toks+([]:List (Str×Value)).length } :=
   bw5 I okY hcl S.cap S.vis (fun x hx=>S.fr (x,.free) (PySem.mem_of_lookup (S.vis x hx)) rfl) (fun x hx=>hcf (x,.free) (PySem.mem_of_lookup (S.vis x hx)) rfl) rfl rfl old hns₁ (by rw [hDe]; exact hCle)
  have fpY:∀ {H':Hp},(∀ b∈fp,H' b=none)→∀ b∈fp,FpOk Y [] H' b:=fun hn b hb =>
   ⟨hn b hb,Nat.ne_of_lt (Nat.lt_of_lt_of_le (fpl b hb) (by rw [hDe]; exact hCle)),okY.exfs b hb,.inl hb,fun x c e=>(hfp b hb).2.2.2.2.1 x c (hcl x c e),fun p hp=>absurd (show p∈([]:List (Addr×Obj)) from hp) (by simp)⟩
  have fpD:∀ b∈fp,b≠D:=fun b hb=>Nat.ne_of_lt (by rw [← hDe]; exact fpl b hb)
  refine av1 (fun n s'=>∃ i acc its σ' H',Inv Y [] σ' H' s'∧tn i s'.heap∧(∀ b∈fp,H' b=none)∧s'.heap.PlainList D its∧H' D=none∧Vals acc its.toList∧acc.length≤sizeLine∧W i n acc σ' H') ?_ m0
   ⟨0,[],#[],cSt Nt.length caps σ,H,I0,st₁,fun b hb=>(hfp b hb).1,hacc,by rw [← hDe]; exact I.hok.fresh (Nat.le_refl _),.nil,Nat.zero_le _,w0⟩
  rintro n s3 ⟨i,acc,its,σ3,H3,I3,st3,fr3,⟨nd,e3⟩,hD3,rv3,hl3,w3⟩
  have cD:C≠D:=Ne.symm hDC
  have pinOk:∀ {H':Hp}{s':Shared}{o:Obj},s'.heap.get? D=some o→H' D=none→(∀ v,o.data≠.cell v)→s'.heap.get? D=some o∧H' D=none∧D≠Y.env.locals∧D∉Y.fs∧∀ v,o.data≠.cell v:=fun e n d =>
   ⟨e,n,hDC,fun z=>absurd (hfsY D z) (Nat.lt_irrefl _),d⟩
  have I3':Inv Y [(D,{ cls:=.type "list",data:=.seq its nd })] σ3 H3 s3:=I3.pins_of fun p hp=>by
   obtain rfl:p=(D,({ cls:=.type "list",data:=.seq its nd }:Obj)):=gG hp
   exact pinOk e3 hD3 (fun v z=>by cases z)
  have fpY':∀ {H':Hp},(∀ b∈fp,H' b=none)→∀ b∈fp,FpOk Y [(D,{ cls:=.type "list",data:=.seq its nd })] H' b:=fun hn b hb=>by
   obtain ⟨a1,a2,a3,a4,a5,_⟩:=fpY hn b hb
   refine ⟨a1,a2,a3,a4,a5,fun p hp=>?_⟩
   obtain rfl:p=(D,({ cls:=.type "list",data:=.seq its nd }:Obj)):=gG hp
   exact Ne.symm (fpD b hb)
  rcases turn i n acc σ3 H3 w3 with ⟨stop,qn⟩ | ⟨go,hlt,N,hN,step⟩
  · refine thn (T.done Y rfl rfl rfl hc i _ s3 σ3 H3 _ I3' (fpY' fr3) st3 stop) fun r s4 ⟨hr,I4⟩=>?_
    subst hr
    have e4:=(I4.pin (D,{ cls:=.type "list",data:=.seq its nd }) (List.mem_append_right _ List.mem_cons_self)).1
    have IX:Inv X pins σ H3 s4:=I.call' (ch:=fp) I4.os I4.base I4.hok I4.bare fun b hb=>by
     obtain ⟨_,a2,_,a4,a5,a6⟩:=hfp b hb
     exact ⟨a4,a2,a5,a6⟩
    have IA:=IX.adopt (o:=.lst acc) hD3 hDs (Nat.ne_of_gt hDl) (fun x c e=>Nat.ne_of_lt (hcD x c e)) (fun p hp=>Nat.ne_of_lt (hpD p hp)) ⟨hl3,its.toList,nd,rv3,e4⟩
    obtain ⟨m,nsC,_⟩:=I4.loc
    refine fin D C m s4 _ IA (qn D hD3) nsC (by rw [a09 cD]; exact I4.free) ?_ ?_ ?_ ?_
    · exact Nat.ne_of_gt (Nat.lt_of_lt_of_le hDl hCle)
    · exact Nat.le_trans hDs hCle
    · exact fun x c e=>Nat.ne_of_lt (Nat.lt_of_lt_of_le (hcD x c e) hCle)
    · exact fun p hp=>Nat.ne_of_lt (Nat.lt_of_lt_of_le (hpD p hp) hCle)
  · refine thn (T.item Y rfl rfl rfl hc i _ s3 σ3 H3 _ I3' (fpY' fr3) st3 go) fun r s4 ⟨u,hr,h4⟩=>?_
    subst hr
    refine thn h4 fun _ s5 ⟨x,H5,I5,r5,y5,st5,fr5⟩=>?_
    have I5':=I5.pinned (fpY' fr5) (T.obj _ _ st5)
    refine thn (hg cl C s H fp _ s5 σ3 H5 x u _ I5' r5 (step x H5 y5)) fun _ s6 ⟨σ6,H6,I6,q6⟩=>?_
    refine thn (ht cl C s H fp _ s6 σ6 H6 _ I6 q6) fun b s7 ⟨H7,I7,q7⟩=>?_
    have back:∀ {σ':St} {H':Hp}{s':Shared},Inv Y ([(D,{ cls:=.type "list",data:=.seq its nd })]++pinsAt fp s5.heap) σ' H' s' →
     s'.heap.get? D=some { cls:=.type "list",data:=.seq its nd }∧H' D=none∧tn (i+1) s'.heap∧∀ b∈fp,H' b=none:=fun {σ' H' s'} J7=>by
     have hd:=J7.pin (D,{ cls:=.type "list",data:=.seq its nd }) (List.mem_append_right _ (List.mem_append_left _ List.mem_cons_self))
     refine ⟨hd.1,hd.2.1,T.keep _ _ _ st5 fun b hb o e=>(J7.pin (b,o) (List.mem_append_right _ (List.mem_append_right _ (ah6 hb e)))).1,fun b hb=>?_⟩
     obtain ⟨o,e,d⟩:=T.obj _ _ st5 b hb
     exact (J7.pin (b,o) (List.mem_append_right _ (List.mem_append_right _ (ah6 hb e)))).2.1
    cases b with
    | false =>
      rw [if_neg Bool.false_ne_true]
      rw [if_neg Bool.false_ne_true] at q7
      obtain ⟨m',hm,w7⟩:=hN _ _ _ q7
      obtain ⟨b1,b2,b3,b4⟩:=back I7
      exact ⟨m',hm,i+1,acc,its,σ6,H7,I7.pins_of (fun p hp=>nomatch hp),b3,b4,⟨nd,b1⟩,b2,rv3,hl3,w7⟩
    | true =>
      rw [if_pos rfl]
      rw [if_pos rfl] at q7
      refine thn (he cl C s H fp _ s7 σ6 H7 _ I7 q7) fun u8 s8 ⟨y,H8,I8,r8,n8⟩=>?_
      obtain ⟨m',hm,w8⟩:=hN _ _ _ n8
      obtain ⟨b1,b2,b3,b4⟩:=back I8
      have hsz:its.size≤sizeLine:=by
       have h1:=rv3.length
       have h2:its.toList.length=its.size:=by simp
       omega
      refine wpAny_list_append_plain (hsz:=hsz) ⟨nd,b1⟩ fun h' pl' sb'=>?_
      have I8':Inv Y [] σ6 H8 s8:=I8.pins_of (fun p hp=>nomatch hp)
      refine ⟨m',hm,i+1,acc++[y],its.push u8,σ6,H8,I8'.turned (t':=s8.toks) (fun b o hb e=>(sb'.2 b hb).trans e) b2 hDC (.inr (by show s.heap.objs.size≤D; rw [hDe]; exact Nat.le_refl _)) (fun x c e=>Nat.ne_of_lt (hcD x c (hcl x c e))) (fun p hp=>absurd (show p∈([]:List (Addr×Obj)) from hp) (by simp)),?_,b4,pl',b2,?_,?_,w8⟩
      · exact T.keep _ _ _ b3 fun b hb o e=>(sb'.2 b (fpD b hb)).trans e
      · rw [Array.toList_push]
        exact rv3.append (.cons r8 .nil)
      · rw [List.length_append,List.length_singleton]
        omega
 exact codeAny_compStart_list (loop _ rfl) (T.self _ _ _ _ _ st₁ (loop _ rfl))
theorem ak4 {tg iter elt:Expr}{ifs:List Expr}{scope:Scope}{pos:Pos}{wi:TI}{g:TG}{tt:TT}{te:TE}{Nt Nf:List Str}{caps:List Nat}(hc:X.calm=true) (S:CompOk X scope Nt Nf caps) (hi:PI X tg iter wi)
 (hg:∀ cl C s0 H0 ex,PG (cxC X (Nt++Nf) scope cl C s0 H0 ex) tg g)
 (ht:∀ cl C s0 H0 ex,PTs (cxC X (Nt++Nf) scope cl C s0 H0 ex) ifs tt)
 (he:∀ cl C s0 H0 ex,PE (cxC X (Nt++Nf) scope cl C s0 H0 ex) elt te)
 (hs:∀ x,foldedSetIterable iter X.env x=pure x:=by intro _; rfl):PE X (.ListComp elt [⟨tg,iter,ifs,0⟩] scope pos) (tLC wi g tt te Nt.length caps):=by
 intro pins s σ H Q I h
 obtain ⟨cl,hclos,hcl,hcf⟩:=ap8 I.ok.has S.fr
 rw [eval_ListComp]
 refine wpAny_comprehension_free (use:=none) rfl hs hclos S.kind S.nm (thn (hi pins s σ H _ I h) fun v s1 h1=>thn h1 fun itv s2 h2=>?_)
 obtain ⟨it,fp,tn,J,H2,e,I2,T,st2,f2,hW⟩:=h2
 subst e
 refine ap9 (RR:=fun acc C=>compPost (model X.prog X.w) X.A X.xe none (EP X pins σ Q) acc C) (Q:=Q) hc S hg ht he hcl hcf I2 T st2 f2 hW ?_
 intro D C m s' H' I' q nsC hCn hCl hCs hCc hCp
 exact ⟨m,nsC,fun h' sb=>⟨.ref D,H',I'.turned (t':=s'.toks) (fun b o hb e=>(sb.2 b hb).trans e) hCn hCl (.inr hCs) hCc hCp,rfl,q⟩⟩
theorem bw7 {tg iter elt:Expr}{ifs:List Expr}{scope:Scope}{pos spos py:Pos}{y:Str}{i:Nat}{wi:TI}{g:TG}{tt:TT}{te:TE}{Nt Nf:List Str}{caps:List Nat}(hc:X.calm=true) (S:CompOk X scope Nt Nf caps) (hi:PI X tg iter wi)
 (hg:∀ cl C s0 H0 ex,PG (cxC X (Nt++Nf) scope cl C s0 H0 ex) tg g)
 (ht:∀ cl C s0 H0 ex,PTs (cxC X (Nt++Nf) scope cl C s0 H0 ex) ifs tt)
 (he:∀ cl C s0 H0 ex,PE (cxC X (Nt++Nf) scope cl C s0 H0 ex) elt te)
 (hN:X.N.Nodup) (hy:X.N[i]?=some y) (hx:Loc X.env.scope y)
 (hsw:swapsWith (.ListComp elt [⟨tg,iter,ifs,0⟩] scope pos) (some (.Name y py)) spos.line X.env=pure true)
 (hf:X.fn y=true∨X.env.scope.names.lookup y=some .local:=by first | exact .inl rfl | exact .inr rfl | assumption)
 (hs:∀ x,foldedSetIterable iter X.env x=pure x:=by intro _; rfl):PS X (.Assign [.Name y py] (.ListComp elt [⟨tg,iter,ifs,0⟩] scope pos) spos) (tAsg (tLC wi g tt te Nt.length caps) (gName i)):=by
 intro pins s σ H D I h
 obtain ⟨cl,hclos,hcl,hcf⟩:=ap8 I.ok.has S.fr
 rw [exec_Assign_Name_used _ _ _ _ hsw]
 refine wB (wpAny_standAt (wB ?_))
 show wpAny _ X.A (do let _←comprehension (.ListComp elt [⟨tg,iter,ifs,0⟩] scope pos) scope X.env _ (newList []) false (eval iter X.env) (some (assign (.Name y py) X.env))) _ _ s
 refine wB (wpAny_mono (wpAny_comprehension_free (use:=some (assign (.Name y py) X.env)) (Q:=fun _ s'=>SP X pins D .next s') rfl hs hclos S.kind S.nm
  (thn (hi pins s σ H _ I h) fun v s1 h1=>thn h1 fun itv s2 h2=>?_)) (fun _ s' hq=>wpAny_pure (wpAny_pure hq)) fun _ _ e=>e)
 obtain ⟨it,fp,tn,J,H2,e,I2,T,st2,f2,hW⟩:=h2
 subst e
 refine ap9 (RR:=fun acc C=>compPost (model X.prog X.w) X.A X.xe (some (assign (.Name y py) X.env)) (fun _ s'=>SP X pins D .next s') acc C) (Q:=fun x H1=>gName i x σ H1 D.nx) hc S hg ht he hcl hcf I2 T st2 f2 hW ?_
 intro l C m s' H' I' q nsC hCn hCl hCs hCc hCp
 show wpAny _ X.A (assign (.Name y py) X.env (.ref l)) _ _ _
 refine wpAny_assign_Name (at7 (v:=.ref l) I' hN hy hx rfl (fun s'' I'' ⟨a,sb,ha⟩=>?_) hf)
 have haC:C≠a:=by
  rcases ha with z | z
  · rw [z]; exact hCl
  · exact fun e=>hCc y a z e.symm
 refine ⟨m,nsC.sameBut sb haC,fun h' sb'=>⟨_,H',I''.turned (t':=s''.toks) (fun b o hb e=>(sb'.2 b hb).trans e) hCn hCl (.inr hCs) hCc hCp,q⟩⟩
end
section
variable {X:Cx}{tg:Expr}
end
section
variable {X:Cx}
def strsV (ys:List Str):List V:=ys.map V.str
theorem bn2:OpR X (compareOp .Is) (fun x y H Q=>∃ a b,x=.bl a∧y=.bl b∧Q (.bl (a == b)) H):=by
 intro pins s σ H x y v u Q I rx ry h
 obtain ⟨a,b,rfl,rfl,q⟩:=h
 cases rx
 cases ry
 exact is_bool ⟨.bl _,H,I,rfl,q⟩
def CBig (i j:Int):Prop:=(i.natAbs<2 ^ 4096∧j.natAbs<2 ^ 4096)∨CMul i j
theorem bd6 {i:Int}{n:Nat}(h:i.natAbs<2 ^ n):Builtin.Int.intBits i≤n:=by
 unfold Builtin.Int.intBits
 split
 · exact Nat.zero_le _
 · rename_i h0
   have h1:i.natAbs≠0:=by simpa using h0
   have:=(Nat.log2_lt h1).mpr h
   omega
theorem CBig.ok {i j:Int}(h:CBig i j):IntMulOk i j:=by
 rcases h with ⟨h1,h2⟩ | h
 · exact IntMulOk.of_bits (Nat.le_trans (bd6 h1) (by decide)) (Nat.le_trans (bd6 h2) (by decide))
 · exact h.ok
theorem c77:OpR X (binaryOp .Mult) (rI CBig fun i j=>.int (i*j)):=opI fun _ _ _ _ _ _ _ hc q=>mul_int q hc.ok
theorem bn3:CallR X (.builtin "isinstance") (fun xs H Q=>∃ x n t b,xs=[x,.ty n]∧TyOf X.K H x t∧W.kitOne X.K t (.type n)=some b∧Q (.bl b) H):=by
 intro pins s σ H xs us Q I r h
 obtain ⟨x,n,t,b,rfl,ty,e,q⟩:=h
 obtain ⟨u,w',rfl,rx,ry⟩:=bl9 r
 cases (show w'=Value.type n from ry)
 exact bc5 I rx ty e fun tk=>⟨.bl b,H,I.tok _,rfl,q⟩
def rEqS (K:W.Frag) (neg:Bool):R2:=fun x y H Q=>∃ l b ys zs,x=.ref l∧y=.ref b∧SqL K H l (strsV ys)∧SqL K H b (strsV zs)∧Q (.bl (if neg then !decide (ys=zs) else decide (ys=zs))) H
theorem ay6:∀ {ys:List Str}{us:List Value},Vals (strsV ys) us→∀ (i:Nat) (h:i<us.length),∃ y t,ys[i]?=some y∧us[i]=.str y t
 | [],_,r,i,h=>by cases r; simp at h
 | y::ys,_,r,i,h=>by
   cases r with
   | cons r1 r2 =>
     cases i with
     | zero =>
       obtain ⟨t,rfl⟩:=r1
       exact ⟨y,t,rfl,rfl⟩
     | succ i=>exact ay6 (ys:=ys) r2 i (by simpa using h)
theorem bd7:∀ (ys zs:List Str),ys.length=zs.length→((List.range ys.length).all fun i=>decide (ys[i]?=zs[i]?))=decide (ys=zs):=by
 intro ys zs hl
 rw [Bool.eq_iff_iff,List.all_eq_true,decide_eq_true_iff]
 constructor
 · intro h
   refine List.ext_getElem? fun i=>?_
   by_cases hi:i<ys.length
   · exact of_decide_eq_true (h i (List.mem_range.mpr hi))
   · rw [List.getElem?_eq_none (by omega),List.getElem?_eq_none (by omega)]
 · intro h i _
   subst h
   simp
end
section
variable {X:Cx}{e:Expr}{te:TE}{pos:Pos}
end
abbrev New (H:Hp) (o:HO) (Q:VK):Prop:=∀ p H',H p=none→Same H H'→H' p=some o→Q (.ref p) H'
theorem Same.new {H:Hp}{p:Addr}{o:HO}(h:H p=none):Same H (upd H p o):=fun b u e=>by rw [a09 (a05 e h)]; exact e
theorem New.to {H:Hp}{Q:VK}{o:HO}(h:New H o Q):∀ p,H p=none→Q (.ref p) (upd H p o):=fun p hp=>h p _ hp (Same.new hp) a41
section
variable {X:Cx}{es:List Expr}{t:TA}{pos:Pos}
def tLstN (t:TA):TE:=fun σ H Q=>t σ H fun xs H1=>xs.length≤sizeLine∧New H1 (.lst xs) Q
def tTupN (t:TA):TE:=fun σ H Q=>t σ H fun xs H1=>xs.length≤sizeLine∧New H1 (.tup xs) Q
theorem a66 {x1}(h:PA X es t):PE X (.Tuple es x1 pos) (tTupN t):=by
 intro pins s σ H Q I hq
 refine wpAny_Tuple_spliced (thn (h pos pins s σ H _ I hq) fun us s1 ⟨xs,H1,I1,r,z,q⟩=>⟨by rw [← r.length]; exact z,?_⟩)
 refine ⟨.ref s1.heap.objs.size,upd H1 s1.heap.objs.size (.tup xs),I1.laid (t':=s1.toks) (fun b u e=>gP _ e) (Nat.le_refl _) ?_,rfl,New.to q _ (I1.hok.fresh (Nat.le_refl _))⟩
 exact ⟨z,us,r,⟨_,Heap.get?_push_size _ rfl,rfl,_,rfl⟩⟩
theorem a48 (h:PA X es t):PE X (.List es pos) (tLstN t):=by
 intro pins s σ H Q I hq
 refine wpAny_List_spliced (thn (h pos pins s σ H _ I hq) fun us s1 ⟨xs,H1,I1,r,z,q⟩=>⟨by rw [← r.length]; exact z,?_⟩)
 refine ⟨.ref s1.heap.objs.size,upd H1 s1.heap.objs.size (.lst xs),I1.laid (t':=s1.toks) (fun b u e=>gP _ e) (Nat.le_refl _) ?_,rfl,New.to q _ (I1.hok.fresh (Nat.le_refl _))⟩
 exact ⟨z,us,0,r,Heap.get?_push_size _ rfl⟩
def rSlN (K:W.Frag):V→Option Int→Option Int→Hp→VK→Prop:=fun x lo hi H Q=>∃ a xs,x=.ref a∧SqL K H a xs∧New H (.lst (cutV xs lo hi)) Q
theorem bn4:SlR X (rSlN X.K):=by
 intro pins s σ H x v vl vu lo hi sl Q I rx hs pl pu h
 obtain ⟨a,xs,e,h1,h2⟩:=h
 exact bw0 pins s σ H x v vl vu lo hi sl Q I rx hs pl pu ⟨a,xs,e,h1,New.to h2⟩
theorem b82:CallR X (.type "list") (fun xs H Q=>∃ p ys,xs=[.ref p]∧(SqL X.K H p ys∨SqT X.K H p ys)∧New H (.lst ys) Q):=by
 intro pins s σ H xs us Q I r h
 obtain ⟨p,ys,e,h1,h2⟩:=h
 exact au6 pins s σ H xs us Q I r ⟨p,ys,e,h1,New.to h2⟩
theorem ay7:CallR X (.type "tuple") (fun xs H Q=>∃ p ys,xs=[.ref p]∧SqL X.K H p ys∧New H (.tup ys) Q):=by
 intro pins s σ H xs us Q I r h
 obtain ⟨p,ys,e,h1,h2⟩:=h
 exact ar7 pins s σ H xs us Q I r ⟨p,ys,e,.inl ⟨h1,New.to h2⟩⟩
end
def rIsi (K:W.Frag):List V→Hp→VK→Prop:=fun xs H Q=>∃ x n t b,xs=[x,.ty n]∧TyOf K H x t∧W.kitOne K t (.type n)=some b∧Q (.bl b) H
def tTru (K:W.Frag) (ta:TE):TT:=fun σ H Q=>ta σ H fun x H'=>∃ k,TruV K x H' k∧Q k H'
def rLen (K:W.Frag):List V→Hp→VK→Prop:=fun xs H Q=>∃ x n,xs=[x]∧LenV K x H n∧Q (.int n) H
def rIsB:R2:=fun x y H Q=>∃ a b,x=.bl a∧y=.bl b∧Q (.bl (a == b)) H
def rListN (K:W.Frag):List V→Hp→VK→Prop:=fun xs H Q=>∃ p ys,xs=[.ref p]∧(SqL K H p ys∨SqT K H p ys)∧New H (.lst ys) Q
def rTupleN (K:W.Frag):List V→Hp→VK→Prop:=fun xs H Q=>∃ p ys,xs=[.ref p]∧SqL K H p ys∧New H (.tup ys) Q
section
variable {X:Cx}{a:Expr}{ta:TE}
theorem c78:CallR X (.builtin "isinstance") (rIsi X.K):=bn3
theorem c79 (ha:PE X a ta) (he:∀ whole,isTrue a X.env whole=(do let v←whole; standAt a.pos; holding [v] (truthy v))):PT X a (tTru X.K ta):=bl8 ha he
theorem c80:CallR X (.builtin "len") (rLen X.K):=bm0
theorem c81:OpR X (compareOp .Is) rIsB:=bn2
theorem bw8:CallR X (.type "list") (rListN X.K):=b82
theorem bn5:CallR X (.type "tuple") (rTupleN X.K):=ay7
end
def rPlus:R2:=fun x y H Q=>match x,y with
 | .int i,.int j=>Q (.int (i+j)) H
 | .str i,.str j=>i.length+j.length≤sizeLine∧Q (.str (i++j)) H
 | .ref l,.ref b=>∃ xs zs,H l=some (.lst xs)∧H b=some (.lst zs)∧xs.length+zs.length≤sizeLine∧New H (.lst (xs++zs)) Q
 | _,_=>False
def rTimes:R2:=fun x y H Q=>match x,y with
 | .int i,.int j=>CBig i j∧Q (.int (i*j)) H
 | .str z,.int n=>MulOk z n∧Q (.str (Txt.mul z n)) H
 | _,_=>False
def rStr:List V→Hp→VK→Prop:=fun xs H Q=>match xs with
 | [.int i]=>i.natAbs.log2<1920∧Q (.str (toString i)) H
 | [.str z]=>Q (.str z) H
 | _=>False
section
variable {X:Cx}
theorem a86:OpR X (binaryOp .Add) rPlus:=by
 intro pins s σ H x y v u Q I rx ry h
 cases x with
 | int i=>cases y with
   | int j=>exact c56 pins s σ H _ _ v u Q I rx ry ⟨i,j,rfl,rfl,h⟩
   | _=>exact (show False from h).elim
 | str i=>cases y with
   | str j=>exact b73 pins s σ H _ _ v u Q I rx ry ⟨i,j,rfl,rfl,h⟩
   | _=>exact (show False from h).elim
 | ref l=>cases y with
   | ref b =>
     obtain ⟨xs,zs,h1,h2,h3,h4⟩:=h
     exact c67 pins s σ H _ _ v u Q I rx ry ⟨l,b,xs,zs,rfl,rfl,h1,h2,h3,New.to h4⟩
   | _=>exact (show False from h).elim
 | _=>exact (show False from h).elim
theorem ah9:OpR X (binaryOp .Mult) rTimes:=by
 intro pins s σ H x y v u Q I rx ry h
 cases x with
 | int i=>cases y with
   | int j=>exact c77 pins s σ H _ _ v u Q I rx ry ⟨i,j,rfl,rfl,h⟩
   | _=>exact (show False from h).elim
 | str z=>cases y with
   | int n =>
     obtain ⟨t,rfl⟩:=rx
     obtain ⟨t',rfl⟩:=ry
     exact SB.mul h.1 fun t2 k=>⟨.str _,H,I.tok _,⟨_,rfl⟩,h.2⟩
   | _=>exact (show False from h).elim
 | _=>exact (show False from h).elim
theorem ab4 {scope sc:Scope}{Nt Nf:List Str}{caps:List Nat}(hsc:X.env.scope=sc) (kind:scope.kind=.function) (nc:∀ y∈scope.names,y.2≠.cell) (nm:∀ y∈scope.names,y.2=.local→scope.names.lookup y.1=some .local)
 (fr:∀ y∈scope.names,y.2=.free→sc.names.lookup y.1=some .cell∨sc.names.lookup y.1=some .free) (cap:caps.map (fun j=>X.N[j]?)=Nf.map some) (vis:∀ x∈Nf,scope.names.lookup x=some .free):CompOk X scope Nt Nf caps :=
 ⟨kind,nc,nm,fun y hy h=>by show X.env.scope.names.lookup y.1=_∨X.env.scope.names.lookup y.1=_; rw [hsc]; exact fr y hy h,cap,vis⟩
abbrev LcEnd (J:It) (te:TE) (tt:TT) (caps:List Nat) (σ:St) (H:Hp) (Q:VK):Prop:=∃ W:Nat→Nat→List V→St→Hp→Prop,(∃ m,W 0 m [] (cSt 1 caps σ) H)∧∀ i m acc σ' H',W i m acc σ' H' →
 (J.stop i H'∧∀ l,H' l=none→Q (.ref l) (upd H' l (.lst acc))) ∨
 (J.go i H'∧acc.length<sizeLine∧∃ N:List V→St→Hp→Prop,(∀ ac σ2 H2,N ac σ2 H2→∃ m',m'<m∧W (i+1) m' ac σ2 H2)∧∀ x H2,J.yld i H' x H2→gName 0 x σ' H2 fun σ3 H3=>tt σ3 H3 fun b H4=>if b=true then te σ3 H4 fun y H5=>N (acc++[y]) σ3 H5 else N acc σ3 H4)
theorem b50 {J:It}{te:TE}{tt:TT}{caps:List Nat}{σ:St} {H:Hp}{Q:VK}(n:Nat) (hz:n≤sizeLine) (Pv:Nat→List V→Hp→Prop) (h0:Pv 0 [] H) (hl:∀ i acc H,Pv i acc H→acc.length≤i)
 (hgo:∀ i acc H,i<n→Pv i acc H→J.go i H) (hst:∀ acc H,Pv n acc H→J.stop n H)
 (hs:∀ i x acc H H2,i<n→Pv i acc H→J.yld i H x H2→tt (some x::capV caps σ) H2 fun b H4=>if b=true then te (some x::capV caps σ) H4 fun y H5=>Pv (i+1) (acc++[y]) H5 else Pv (i+1) acc H4)
 (hd:∀ acc H,Pv n acc H→New H (.lst acc) Q):LcEnd J te tt caps σ H Q:=by
 refine ⟨fun i m acc σ' H=>m=n - i∧i≤n∧(∃ v,σ'=v::capV caps σ)∧Pv i acc H,⟨n,by simp,Nat.zero_le _,⟨none,rfl⟩,h0⟩,?_⟩
 rintro i m acc σ' H' ⟨rfl,hi,⟨v,rfl⟩,p⟩
 by_cases hlt:i<n
 · refine .inr ⟨hgo i acc H' hlt p,?_,fun ac σ2 H2=>(∃ v,σ2=v::capV caps σ)∧Pv (i+1) ac H2,fun ac σ2 H2 ⟨e,p'⟩=>⟨n - (i+1),by omega,rfl,hlt,e,p'⟩,fun x H2 y=>?_⟩
   · have:=hl i acc H' p
     omega
   · have eN:∀ ac H5,((∃ u,some x::capV caps σ=u::capV caps σ)∧Pv (i+1) ac H5)=Pv (i+1) ac H5:=fun ac H5=>propext ⟨And.right,fun p=>⟨⟨_,rfl⟩,p⟩⟩
     show tt (some x::capV caps σ) H2 fun b H4=>if b=true then te (some x::capV caps σ) H4 fun y H5=>((∃ u,some x::capV caps σ=u::capV caps σ)∧Pv (i+1) (acc++[y]) H5) else ((∃ u,some x::capV caps σ=u::capV caps σ)∧Pv (i+1) acc H4)
     simp only [eN]
     exact hs i x acc H' H2 hlt p y
 · have e:i=n:=by omega
   subst e
   exact .inl ⟨hst acc H' p,New.to (hd acc H' p)⟩
theorem bw9 {K:W.Frag}{a:Addr}{xs:List V}{te:TE}{tt:TT}{caps:List Nat}{σ:St} {H:Hp}{Q:VK}(hz:xs.length≤sizeLine) (Pv:Nat→List V→Hp→Prop) (h0:Pv 0 [] H) (hl:∀ i acc H,Pv i acc H→acc.length≤i∧SqL K H a xs)
 (hs:∀ i x acc H,xs[i]?=some x→Pv i acc H→tt (some x::capV caps σ) H fun b H4=>if b=true then te (some x::capV caps σ) H4 fun y H5=>Pv (i+1) (acc++[y]) H5 else Pv (i+1) acc H4)
 (hd:∀ acc H,Pv xs.length acc H→New H (.lst acc) Q):LcEnd (Itl K a) te tt caps σ H Q:=by
 refine b50 xs.length hz Pv h0 (fun i acc H p=>(hl i acc H p).1) (fun i acc H hi p=>⟨xs,xs[i],(hl i acc H p).2,by simp [hi]⟩) (fun acc H p=>⟨xs,(hl _ acc H p).2,Nat.le_refl _⟩) ?_ hd
 rintro i x acc H1 H2 hi p ⟨rfl,y⟩
 exact hs i x acc _ (y xs (hl i acc _ p).2) p
theorem c82 {K:W.Frag}{a:Addr}{xs:List V}{te:TE}{tt:TT}{caps:List Nat}{σ:St} {H:Hp}{Q:VK}(hz:xs.length≤sizeLine) (Pv:Nat→List V→Hp→Prop) (h0:Pv 0 [] H) (hl:∀ i acc H,Pv i acc H→acc.length≤i∧SqT K H a xs)
 (hs:∀ i x acc H,xs[i]?=some x→Pv i acc H→tt (some x::capV caps σ) H fun b H4=>if b=true then te (some x::capV caps σ) H4 fun y H5=>Pv (i+1) (acc++[y]) H5 else Pv (i+1) acc H4)
 (hd:∀ acc H,Pv xs.length acc H→New H (.lst acc) Q):LcEnd (Itt K a) te tt caps σ H Q:=by
 refine b50 xs.length hz Pv h0 (fun i acc H p=>(hl i acc H p).1) (fun i acc H hi p=>⟨xs,xs[i],(hl i acc H p).2,by simp [hi]⟩) (fun acc H p=>⟨xs,(hl _ acc H p).2,Nat.le_refl _⟩) ?_ hd
 rintro i x acc H1 H2 hi p ⟨rfl,y⟩
 exact hs i x acc _ (y xs (hl i acc _ p).2) p
end
end L2
namespace L2
open PySem
theorem ex_some_and {α:Type}{a:α}{p:α→Prop}:(∃ v,some (some a)=some (some v)∧p v)↔p a:=⟨fun ⟨_,e,h⟩=>by cases e; exact h,fun h=>⟨a,rfl,h⟩⟩
def ForEnd (J:It) (g:TG) (tb:TS) (D:Ends) (σ:St) (H1:Hp):Prop:=∃ W:Nat→Nat→St→Hp→Prop,(∃ m,W 0 m σ H1)∧∀ i m σ H,W i m σ H →
 (J.stop i H∧D.nx σ H)∨(J.go i H∧∃ N:St→Hp→Prop,(∀ σ' H',N σ' H'→∃ m',m'<m∧W (i+1) m' σ' H')∧∀ x H',J.yld i H x H'→g x σ H' fun σ2 H2=>tb { D with nx:=N,ct:=N,bk:=D.nx } σ2 H2)
def CompEnd (J:It) (g:TG) (tt:TT) (te:TE) (n:Nat) (caps:List Nat) (σ:St) (H:Hp) (Q:VK):Prop:=∃ W:Nat→Nat→List V→St→Hp→Prop,(∃ m,W 0 m [] (cSt n caps σ) H)∧∀ i m acc σ' H',W i m acc σ' H' →
 (J.stop i H'∧∀ l,H' l=none→Q (.ref l) (upd H' l (.lst acc))) ∨
 (J.go i H'∧acc.length<sizeLine∧∃ N:List V→St→Hp→Prop,(∀ ac σ2 H2,N ac σ2 H2→∃ m',m'<m∧W (i+1) m' ac σ2 H2)∧∀ x H2,J.yld i H' x H2→g x σ' H2 fun σ3 H3=>tt σ3 H3 fun b H4=>if b=true then te σ3 H4 fun y H5=>N (acc++[y]) σ3 H5 else N acc σ3 H4)
section
variable {K:W.Frag}{a:Addr}{xs:List V}{te:TE}{tt:TT}{caps:List Nat}{σ:St} {H:Hp}{Q:VK}{z:Str}{lo:Int}{n:Nat}
theorem ae6 (hz:xs.length≤sizeLine) (Pv:Nat→List V→Hp→Prop) (h0:Pv 0 [] H) (hl:∀ i acc H,Pv i acc H→acc.length≤i∧SqL K H a xs)
 (hs:∀ i x acc H,xs[i]?=some x→Pv i acc H→tt (some x::capV caps σ) H fun b H4=>if b=true then te (some x::capV caps σ) H4 fun y H5=>Pv (i+1) (acc++[y]) H5 else Pv (i+1) acc H4)
 (hd:∀ acc H,Pv xs.length acc H→New H (.lst acc) Q):CompEnd (Itl K a) (gName 0) tt te 1 caps σ H Q:=bw9 hz Pv h0 hl hs hd
theorem c83 (hz:xs.length≤sizeLine) (Pv:Nat→List V→Hp→Prop) (h0:Pv 0 [] H) (hl:∀ i acc H,Pv i acc H→acc.length≤i∧SqT K H a xs)
 (hs:∀ i x acc H,xs[i]?=some x→Pv i acc H→tt (some x::capV caps σ) H fun b H4=>if b=true then te (some x::capV caps σ) H4 fun y H5=>Pv (i+1) (acc++[y]) H5 else Pv (i+1) acc H4)
 (hd:∀ acc H,Pv xs.length acc H→New H (.lst acc) Q):CompEnd (Itt K a) (gName 0) tt te 1 caps σ H Q:=c82 hz Pv h0 hl hs hd
end
theorem cxOf_K {CX:CXT}{P:Program}{w:World}{K:W.Frag}{mg:Str→Option Value}{base:Heap}{N:List Str}{qual:Str}{scope:Scope}{f:Addr}{cd:Value}{A:Around}{outer:List Env}{s:Shared}{H:Hp}{E:XK} :
 (cxOf CX P w K mg base N qual scope f cd A outer s H E).K=K:=rfl
theorem cxC_K {X:Cx}{N:List Str}{scope:Scope}{cl:List (Str×Addr)}{C:Addr}{s0:Shared}{H0:Hp}{ex:List Addr}:(cxC X N scope cl C s0 H0 ex).K=X.K:=rfl
section
variable {X:Cx}
theorem a42 (K:W.Frag) (hK:X.K=K:=by rfl):IxR X (rIxL K):=hK ▸ bv9
theorem a08 (K:W.Frag) (hK:X.K=K:=by rfl):IxR X (rIxT K):=hK ▸ c64
theorem ai0 (K:W.Frag) (hK:X.K=K:=by rfl):SlR X (rSlN K):=hK ▸ bn4
theorem bd8 (K:W.Frag) (hK:X.K=K:=by rfl):CallR X (.builtin "isinstance") (rIsi K):=hK ▸ c78
theorem aa6 (K:W.Frag) (hK:X.K=K:=by rfl):CallR X (.builtin "len") (rLen K):=hK ▸ c80
theorem ad0 (K:W.Frag) (hK:X.K=K:=by rfl):CallR X (.type "list") (rListN K):=hK ▸ bw8
theorem af1 (K:W.Frag) (hK:X.K=K:=by rfl):CallR X (.type "tuple") (rTupleN K):=hK ▸ bn5
theorem bd9 (K:W.Frag) {a:Expr}{ta:TE}(ha:PE X a ta) (he:∀ whole,isTrue a X.env whole=(do let v←whole; standAt a.pos; holding [v] (truthy v))) (hK:X.K=K:=by rfl):PT X a (tTru K ta):=hK ▸ c79 ha he
theorem a69 (K:W.Frag) {tg l:Expr}{tl:TE}(hl:PE X l tl) (hK:X.K=K:=by rfl):PI X tg l (iList K tl):=hK ▸ bv2 hl
theorem be0 (K:W.Frag) {tg l:Expr}{tl:TE}(hl:PE X l tl) (hK:X.K=K:=by rfl):PI X tg l (iTup K tl):=hK ▸ c54 hl
theorem ae7 (K:W.Frag) {pos:Pos}{es:List Expr}{k:Nat}{t:TGs}{n:Nat}(hc:X.calm=true) (h:PGs X es t) (hn:(assignEach es X.env).length=n:=by rfl) (hst:(assignEach es X.env).findIdx? (·.1)=none:=by rfl) (hK:X.K=K:=by rfl) :
 PG X (.Tuple es k pos) (gTup K n t):=hK ▸ c53 hc h hn hst
theorem bx0 (K:W.Frag) {o:Expr}{to:TE}{name:Str}{apos cpos:Pos}{T id:String}{r:V→List V→Hp→VK→Prop}(pa:PlainAttrs T) (slot:Slot T name id) (hty:typeOf (.builtin id)=pure (.type "method_descriptor")) (hm:MtR X id r) (ho:PE X o to)
 (hbase:attributeBase o name X.env (eval o X.env)=eval o X.env:=by rfl) (hline:(apos.endLine == cpos.line)=true:=by rfl) (hK:X.K=K:=by rfl):PE X (.Call (.Attribute o name apos) [] [] cpos) (tBM0 K T r to):=hK ▸ c65 pa slot hty hm ho hbase hline
theorem af2 (K:W.Frag) {o e:Expr}{es:List Expr}{to:TE}{t:TA}{name:Str}{apos cpos:Pos}{T id:String}{r:V→List V→Hp→VK→Prop}(pa:PlainAttrs T) (slot:Slot T name id) (hty:typeOf (.builtin id)=pure (.type "method_descriptor")) (hm:MtR X id r) (ho:PE X o to) (ha:PA X (e::es) t)
 (hbase:attributeBase o name X.env (eval o X.env)=eval o X.env:=by rfl)
 (hfew:((backTo cpos (starEach (e::es) X.env)).all (fun x=>!x.1) && (backToKw cpos (keywordEach [] X.env)).all (fun x=>x.1.isSome) && decide ((e::es).length+([]:List Keyword).length+(if ([]:List Keyword).isEmpty then 0 else 1)<30))=true:=by rfl)
 (hline:(apos.endLine == cpos.line)=true:=by rfl) (hs:starEach (e::es) X.env=(false,eval e X.env)::starEach es X.env:=by rfl) (hplain:(backTo cpos (starEach es X.env)).any (·.1)=false:=by rfl) (hK:X.K=K:=by rfl) :
 PE X (.Call (.Attribute o name apos) (e::es) [] cpos) (tBM K T r to t):=hK ▸ cf1 pa slot hty hm ho ha hbase hfew hline hs hplain
end
theorem ab9:bootBuiltins "len"=some (.builtin "len"):=by decide +kernel
theorem aj2:bootBuiltins "isinstance"=some (.builtin "isinstance"):=by decide +kernel
theorem be1:bootBuiltins "sorted"=some (.builtin "sorted"):=by decide +kernel
theorem bt8:bootBuiltins "sum"=some (.builtin "sum"):=by decide +kernel
theorem bt9:bootBuiltins "min"=some (.builtin "min"):=by decide +kernel
theorem c84:bootBuiltins "max"=some (.builtin "max"):=by decide +kernel
theorem bx1:bootBuiltins "bool"=some (.type "bool"):=by decide +kernel
theorem ac8:bootBuiltins "list"=some (.type "list"):=by decide +kernel
theorem ai1:bootBuiltins "tuple"=some (.type "tuple"):=by decide +kernel
theorem bx2:bootBuiltins "dict"=some (.type "dict"):=by decide +kernel
theorem bn6:bootBuiltins "range"=some (.type "range"):=by decide +kernel
theorem c85:bootBuiltins "set"=some (.type "set"):=by decide +kernel
end L2
local macro_rules | `(tactic| walk_at "rd") => `(tactic| simp only [L2.tCB, L2.tCons, L2.tNil, L2.tVar, L2.rStr, L2.tNoIf, L2.capV, List.map_nil, List.getElem?_cons_zero, L2.ex_some_and, if_true])
namespace L2
open PySem
theorem le_line {n:Nat}(h:n≤1000000):n≤sizeLine:=Nat.le_trans h (by decide)
theorem bn7 {ns:List Int}{j k:Nat}:cutV (ns.map V.int) (some (j:Int)) (some (k:Int))=((ns.drop j).take (k - j)).map V.int:=by
 unfold cutV
 rw [HT.sIx_nat,HT.sIx_nat,gL,List.map_take,List.map_drop]
 by_cases hj:j≤ns.length
 · rw [Nat.min_eq_left hj]
   by_cases h:k≤ns.length
   · rw [Nat.min_eq_left h]
   · rw [Nat.min_eq_right (by omega),List.take_of_length_le (by simp),List.take_of_length_le (by simp; omega)]
 · have hj':min j ns.length=ns.length:=by omega
   rw [hj',List.drop_of_length_le (by simp),List.drop_of_length_le (l:=ns.map V.int) (i:=j) (by simp; omega)]
   simp
theorem nox_K {X:Cx}:X.nox.K=X.K:=rfl
theorem wish_K {X:Cx}{E:Value→Shared→Prop}:(X.wish E).K=X.K:=rfl
section
variable {σ:St} {H:Hp}{Q:VK}{D:Ends}{nn bb cc:St→Hp→Prop}{rr:VK}{t u:TS}{ta tb tc te:TE}{tA tB:TT}{g:TG}{QT:Bool→Hp→Prop}{QA:List V→Hp→Prop}{QS:St→Hp→Prop}
theorem cf3 (h:t ⟨u ⟨nn,rr,bb,cc⟩,rr,bb,cc⟩ σ H):tSeq t u ⟨nn,rr,bb,cc⟩ σ H:=h
theorem cf4 (h:te σ H fun x H1=>g x σ H1 nn):tAsg te g ⟨nn,rr,bb,cc⟩ σ H:=h
theorem i_name {i:Nat}{v:V}(h:QS (σ.set i (some v)) H):gName i v σ H QS:=h
theorem i_var {i:Nat}{v:V}(e:σ[i]?=some (some v)) (h:Q v H):tVar i σ H Q:=⟨v,e,h⟩
theorem i_c {v:V}(h:Q v H):tC v σ H Q:=h
theorem i_op {r:R2}(h:ta σ H fun x H1=>tb σ H1 fun y H2=>r x y H2 Q):tOp r ta tb σ H Q:=h
theorem i_un {r:V→Hp→VK→Prop}(h:ta σ H fun x H1=>r x H1 Q):tUn r ta σ H Q:=h
theorem i_rU {f:Int→V}{i:Int}(h:Q (f i) H):rU f (.int i) H Q:=⟨i,rfl,h⟩
theorem i_rI {C:Int→Int→Prop}{f:Int→Int→V}{i j:Int}(c:C i j) (h:Q (f i j) H):rI C f (.int i) (.int j) H Q:=⟨i,j,rfl,rfl,c,h⟩
theorem cf5 {f:Int→Int→V}{i j:Int}(h:Q (f i j) H):rI0 f (.int i) (.int j) H Q:=⟨i,j,rfl,rfl,h⟩
theorem bx3 {i j:Int}(h:Q (.int (i+j)) H):rPlus (.int i) (.int j) H Q:=h
theorem ai5 {l b:Addr}{xs zs:List V}(h1:H l=some (.lst xs)) (h2:H b=some (.lst zs)) (z:xs.length+zs.length≤sizeLine) (h:New H (.lst (xs++zs)) Q):rPlus (.ref l) (.ref b) H Q:=⟨xs,zs,h1,h2,z,h⟩
theorem aj3 {i j:Int}(c:CBig i j) (h:Q (.int (i*j)) H):rTimes (.int i) (.int j) H Q:=⟨c,h⟩
theorem decI (i j:Int):decide (V.int i=V.int j)=decide (i=j):=by rw [Bool.eq_iff_iff]; simp
theorem decB (i j:Bool):decide (V.bl i=V.bl j)=decide (i=j):=by rw [Bool.eq_iff_iff]; simp
theorem cf6 {i j:Int}(h:Q (.bl (decide (i=j))) H):rEq (.int i) (.int j) H Q:=⟨rfl,by rw [decI]; exact h⟩
theorem cf7 {i j:Bool}(h:Q (.bl (!decide (i=j))) H):rNe (.bl i) (.bl j) H Q:=⟨rfl,by rw [decB]; exact h⟩
theorem c86 (h:te σ H fun x H'=>∃ k,x=.bl k∧QT k H'):tTest te σ H QT:=h
theorem i_bl {k:Bool}{p:Bool→Prop}(h:p k):∃ j,V.bl k=V.bl j∧p j:=⟨k,rfl,h⟩
theorem cf8 (h:tA σ H fun b H1=>if b=true then t D σ H1 else u D σ H1):tIfS tA t u D σ H:=h
theorem i_if (h:tA σ H fun b H1=>if b=true then ta σ H1 Q else tb σ H1 Q):tIf tA ta tb σ H Q:=h
theorem cf9 (h:te σ H rr):tRet te ⟨nn,rr,bb,cc⟩ σ H:=h
theorem c87 (h:nn σ H):tNext ⟨nn,rr,bb,cc⟩ σ H:=h
theorem c88 (h:te σ H fun _ H1=>nn σ H1):tDrop te ⟨nn,rr,bb,cc⟩ σ H:=h
theorem c89 (h:cc σ H):tCont ⟨nn,rr,bb,cc⟩ σ H:=h
theorem c90 {tr:TA}(h:te σ H fun x H1=>tr σ H1 fun xs H2=>QA (x::xs) H2):tCons te tr σ H QA:=h
theorem cg0 (h:QA [] H):tNil σ H QA:=h
theorem i_cb {r:List V→Hp→VK→Prop}{ts:TA}(h:ts σ H fun vs H1=>r vs H1 Q):tCB r ts σ H Q:=h
theorem c91 {sp:Sp}{dvs:List V}{E:XK}{ts:TA}(h:ts σ H fun vs H1=>sp (vs++dvs) H1 Q E):tCall sp dvs E ts σ H Q:=h
theorem cg1 {ts:TA}(h:ts σ H fun xs H1=>xs.length≤sizeLine∧New H1 (.lst xs) Q):tLstN ts σ H Q:=h
theorem cg2 {ts:TA}(h:ts σ H fun xs H1=>xs.length≤sizeLine∧New H1 (.tup xs) Q):tTupN ts σ H Q:=h
theorem c92 {n:Nat}{P:Prop}(h:n≤sizeLine) (p:P):n≤sizeLine∧P:=⟨h,p⟩
theorem i_rgA {j:Int}{P:Prop}(h:-(2 ^ 62)≤j) (h':j<2 ^ 62) (p:P):-(2 ^ 62)≤j∧j<2 ^ 62∧P:=⟨h,h',p⟩
theorem c93 (h:QT true H):tNoIf σ H QT:=h
theorem cg3 (h:tA σ H fun c H1=>QT (!c) H1):tNot tA σ H QT:=h
theorem cg4 (h:tA σ H fun c H1=>if c=true then tB σ H1 QT else QT false H1):tAnd tA tB σ H QT:=h
theorem i_or (h:tA σ H fun c H1=>if c=true then QT true H1 else tB σ H1 QT):tOr tA tB σ H QT:=h
theorem c94 (h:ta σ H fun x H1=>∃ c,x=.bl c∧if c=true then tb σ H1 Q else Q (.bl false) H1):tAndV ta tb σ H Q:=h
theorem cg5 {wi:TI}(h:wi σ H fun J H1=>ForEnd J g t D σ H1):tFor wi g t D σ H:=h
theorem i_lc {wi:TI}{n:Nat}{caps:List Nat}(h:wi σ H fun J H1=>CompEnd J g tA te n caps σ H1 Q):tLC wi g tA te n caps σ H Q:=h
theorem c95 {R:It→Hp→Prop}{ts:TA}(h:ts σ H fun vs H1=>∃ j:Int,vs=[.int j]∧-(2 ^ 62)≤j∧j<2 ^ 62∧R (Itr 0 j.toNat) H1):c55 ts σ H R:=h
theorem bx4 {K:W.Frag}{R:It→Hp→Prop}(h:te σ H fun x H1=>∃ a,x=.ref a∧(∃ xs,SqL K H1 a xs)∧R (Itl K a) H1):iList K te σ H R:=h
theorem c96 {K:W.Frag}{R:It→Hp→Prop}(h:te σ H fun x H1=>∃ a,x=.ref a∧(∃ xs,SqT K H1 a xs)∧R (Itt K a) H1):iTup K te σ H R:=h
theorem cg6 {j:Int}{p:Int→Prop}(h:p j):∃ i:Int,[V.int j]=[V.int i]∧p i:=⟨j,rfl,h⟩
theorem cg7 {a:Addr}{p:Addr→Prop}(h:p a):∃ b,V.ref a=V.ref b∧p b:=⟨a,rfl,h⟩
theorem i_bm {K:W.Frag}{T:String}{r:V→List V→Hp→VK→Prop}{to:TE}{ts:TA}(h:to σ H fun x H1=>tyV K T x H1∧ts σ H1 fun xs H2=>r x xs H2 Q):tBM K T r to ts σ H Q:=h
theorem cg8 {K:W.Frag}{T:String}{r:V→List V→Hp→VK→Prop}{to:TE}(h:to σ H fun x H1=>tyV K T x H1∧r x [] H1 Q):tBM0 K T r to σ H Q:=h
theorem a93 {K:W.Frag}{p:Addr}{xs:List V}{i:Int}{v:V}(h1:SqL K H p xs) (h2:atI xs i=some v) (h:Q v H):rIxL K (.ref p) (.int i) H Q:=⟨p,xs,i,v,rfl,rfl,h1,h2,h⟩
theorem a65 {K:W.Frag}{p:Addr}{xs:List V}{i:Int}{v:V}(h1:SqT K H p xs) (h2:atI xs i=some v) (h:Q v H):rIxT K (.ref p) (.int i) H Q:=⟨p,xs,i,v,rfl,rfl,h1,h2,h⟩
theorem i_sl {r:V→Option Int→Option Int→Hp→VK→Prop}{tl th:TO}(h:te σ H fun x H1=>tl σ H1 fun l H2=>th σ H2 fun u H3=>r x l u H3 Q):tSl r te tl th σ H Q:=h
theorem bn8 {QO:Option Int→Hp→Prop}(h:QO none H):tNoPart σ H QO:=h
theorem c97 {QO:Option Int→Hp→Prop}(h:te σ H fun x H1=>∃ i,x=.int i∧QO (some i) H1):tPart te σ H QO:=h
theorem cg9 {i:Int}{p:Int→Prop}(h:p i):∃ j,V.int i=V.int j∧p j:=⟨i,rfl,h⟩
theorem b83 {K:W.Frag}{a:Addr}{xs:List V}{lo hi:Option Int}(h1:SqL K H a xs) (h:New H (.lst (cutV xs lo hi)) Q):rSlN K (.ref a) lo hi H Q:=⟨a,xs,rfl,h1,h⟩
theorem bx5 {A B:Prop}(h:A):if true=true then A else B:=iteT h
theorem bx6 {A B:Prop}(h:B):if false=true then A else B:=iteF h
theorem c98 {A B:Prop}(h:B):if (!true)=true then A else B:=iteF h
theorem c99 {A B:Prop}(h:A):if (!false)=true then A else B:=iteT h
theorem am3 {K:W.Frag}{n:Nat}{ts:TGs}{a:Addr}{xs:List V}(h1:SqT K H a xs) (h2:xs.length=n) (h:ts xs σ H QS):gTup K n ts (.ref a) σ H QS:=⟨a,xs,rfl,h1,h2,h⟩
theorem ca0 (h:QS σ H):gNil [] σ H QS:=⟨rfl,h⟩
theorem bx7 {gt:TG}{us:TGs}{v:V}{r:List V}(h:gt v σ H fun σ' H'=>us r σ' H' QS):gCons gt us (v::r) σ H QS:=⟨v,r,rfl,h⟩
theorem ca1 {K:W.Frag}{z:Bool}(h:Q (.bl true) H):rIsi K [V.bl z,V.ty "bool"] H Q:=⟨_,_,_,true,rfl,.bl z,rfl,h⟩
theorem ca2 {K:W.Frag}{a:Addr}{xs:List V}(e:H a=some (.lst xs)) (h:Q (.bl true) H):rIsi K [V.ref a,V.ty "list"] H Q:=⟨_,_,_,true,rfl,.lst e,rfl,h⟩
theorem ch0 {K:W.Frag}(h:te σ H fun x H'=>∃ k,TruV K x H' k∧QT k H'):tTru K te σ H QT:=h
theorem ca3 {K:W.Frag}{k:Bool}{p:Bool→Prop}(h:p k):∃ j,TruV K (.bl k) H j∧p j:=⟨k,rfl,h⟩
theorem ad3 {K:W.Frag}{p:Addr}{xs:List V}(h1:SqL K H p xs) (h:Q (.int xs.length) H):rLen K [V.ref p] H Q:=⟨_,_,rfl,.inl ⟨xs,h1,rfl⟩,h⟩
theorem ch1 {a b:Bool}(h:Q (.bl (a == b)) H):rIsB (.bl a) (.bl b) H Q:=⟨a,b,rfl,rfl,h⟩
theorem ae8 {K:W.Frag}{p:Addr}{ys:List V}(h1:SqL K H p ys) (h:New H (.lst ys) Q):rListN K [.ref p] H Q:=⟨p,ys,rfl,.inl h1,h⟩
theorem ai2 {K:W.Frag}{p:Addr}{ys:List V}(h1:SqL K H p ys) (h:New H (.tup ys) Q):rTupleN K [.ref p] H Q:=⟨p,ys,rfl,h1,h⟩
end
end L2
namespace L2
open PySem PySem.Spec PyProof.Rows
section
variable {X:Cx}
end
theorem ar9 {K:W.Frag}{a:Addr}{xs:List V}{te:TE}{tt:TT}{caps:List Nat}{σ:St} {H:Hp}{Q:VK}(hz:xs.length≤sizeLine) (Pv:Nat→List V→Hp→Prop) (h0:Pv 0 [] H) (hl:∀ i acc H,Pv i acc H→acc.length≤i∧SqL K H a xs)
 (hs:∀ i x acc H,xs[i]?=some x→Pv i acc H→∃ p u v,x=.ref p∧SqT K H p [u,v]∧tt (some u::some v::capV caps σ) H fun b H4=>if b=true then te (some u::some v::capV caps σ) H4 fun y H5=>Pv (i+1) (acc++[y]) H5 else Pv (i+1) acc H4)
 (hd:∀ acc H,Pv xs.length acc H→New H (.lst acc) Q):CompEnd (Itl K a) (gTup K 2 (gCons (gName 0) (gCons (gName 1) gNil))) tt te 2 caps σ H Q:=by
 refine ⟨fun i m acc σ' H=>m=xs.length - i∧i≤xs.length∧(∃ u v,σ'=u::v::capV caps σ)∧Pv i acc H,⟨xs.length,by simp,Nat.zero_le _,⟨none,none,rfl⟩,h0⟩,?_⟩
 rintro i m acc σ' H' ⟨rfl,hi,⟨u0,v0,rfl⟩,p⟩
 obtain ⟨hl1,hq⟩:=hl i acc H' p
 by_cases hlt:i<xs.length
 · refine .inr ⟨⟨xs,xs[i],hq,by simp [hlt]⟩,by omega,fun ac σ2 H2=>(∃ u v,σ2=u::v::capV caps σ)∧Pv (i+1) ac H2,fun ac σ2 H2 ⟨e,p'⟩=>⟨xs.length - (i+1),by omega,rfl,hlt,e,p'⟩,fun x H2 y=>?_⟩
   obtain ⟨e,y⟩:=y
   subst e
   obtain ⟨q,u,v,rfl,hT,hst⟩:=hs i x acc _ (y xs hq) p
   have eN:∀ ac H5,((∃ u1 v1,some u::some v::capV caps σ=u1::v1::capV caps σ)∧Pv (i+1) ac H5)=Pv (i+1) ac H5:=fun ac H5=>propext ⟨And.right,fun p=>⟨⟨_,_,rfl⟩,p⟩⟩
   refine ⟨q,[u,v],rfl,hT,rfl,u,[v],rfl,v,[],rfl,rfl,?_⟩
   show tt (some u::some v::capV caps σ) _ fun b H4=>if b=true then te (some u::some v::capV caps σ) H4 fun y H5=>((∃ u1 v1,some u::some v::capV caps σ=u1::v1::capV caps σ)∧Pv (i+1) (acc++[y]) H5) else ((∃ u1 v1,some u::some v::capV caps σ=u1::v1::capV caps σ)∧Pv (i+1) acc H4)
   simp only [eN]
   exact hst
 · have e:i=xs.length:=by omega
   subst e
   exact .inl ⟨⟨xs,hq,Nat.le_refl _⟩,New.to (hd acc H' p)⟩
section
variable {σ:St} {H:Hp}{Q:VK}
theorem ae4 {l:Addr}{xs:List V}{y:V}(h1:H l=some (.lst xs)) (hz:xs.length<sizeLine) (h:Q .non (upd H l (.lst (xs++[y])))):rAppend (.ref l) [y] H Q:=⟨l,xs,y,rfl,rfl,h1,hz,h⟩
theorem ch2 {l:Addr}{xs:List V}{y:V}(h1:H l=some (.lst (xs++[y]))) (h:Q y (upd H l (.lst xs))):rPop (.ref l) [] H Q:=⟨l,xs++[y],y,rfl,rfl,h1,by simp,by simpa using h⟩
theorem aj4 {K:W.Frag}{l:Addr}{xs:List V}{P:Prop}(h1:SqL K H l xs) (h:P):tyV K "list" (.ref l) H∧P:=⟨.inl ⟨rfl,xs,h1⟩,h⟩
end
def Tups (H H':Hp):Prop:=∀ b xs,H b=some (.tup xs)→H' b=some (.tup xs)
theorem Same.tups {H H':Hp}(s:Same H H'):Tups H H':=fun b xs h=>s b _ h
theorem Tups.trans {H H1 H2:Hp}(a:Tups H H1) (b:Tups H1 H2):Tups H H2:=fun c xs h=>b c xs (a c xs h)
theorem Tups.upd {H:Hp}{l:Addr}{xs:List V}{o:HO}(h:H l=some (.lst xs)):Tups H (upd H l o):=fun b ys e=>by rw [a09 (ag4 e h (fun z=>nomatch z))]; exact e
end L2
namespace L2
open PySem
theorem Same.updNew {H H1:Hp}{l:Addr}{o:HO}(s:Same H H1) (h:H l=none):Same H (upd H1 l o):=fun b u e=>by rw [a09 (a05 e h)]; exact s b u e
end L2
namespace L2
open PySem PySem.Spec PyProof.Rows
end L2
namespace L2
open PySem
def pick (ys ws:List Str):List Str:=ws.filter fun w=>decide (w∈ys)
end L2
namespace L2
open PySem PySem.Spec PyProof.Rows
theorem be2 {X:Cx}(K:W.Frag) (hu:X.A.units<cLine) (hK:X.K=K:=by rfl):OpR X (compareOp .NotEq) (rEqS K true):=by
 subst hK
 intro pins s σ H x y v u Q I rx ry h
 obtain ⟨l,b,ys,zs,rfl,rfl,h1,h2,q⟩:=h
 cases rx
 cases ry
 obtain ⟨is1,r1,p1,_⟩:=I.list h1
 obtain ⟨is2,r2,p2,_⟩:=I.list h2
 have e1:ys.length=is1.length:=by have:=r1.length; simpa [strsV] using this
 have e2:zs.length=is2.length:=by have:=r2.length; simpa [strsV] using this
 by_cases hl:ys.length=zs.length
 · have:=SeqAt.RcNeAt.lists (A:=X.A) (s:=s) (e:=fun i=>decide (ys[i]?=zs[i]?)) p1.isList p2.isList (by simp; omega) hu (fun j h1 h2=>by
    obtain ⟨y,t,ey,eu⟩:=ay6 r1 j (by simpa using h1)
    obtain ⟨z,t',ez,ew⟩:=ay6 r2 j (by simpa using h2)
    have:decide (ys[j]?=zs[j]?)=(y == z):=by rw [ey,ez,Bool.eq_iff_iff]; simp
    rw [this]
    have g1:is1.toArray[j]=.str y t:=by simpa using eu
    have g2:is2.toArray[j]=.str z t':=by simpa using ew
    rw [g1,g2]
    exact SeqAt.EqAt.str_str y t z t')
   rw [show is1.toArray.size=ys.length by simp [e1],bd7 ys zs hl] at this
   exact this _ _ _ _ ⟨.bl _,H,I,rfl,q⟩
 · have hne:ys≠zs:=fun e=>hl (by rw [e])
   rw [decide_eq_false hne] at q
   exact SeqAt.RcNeAt.lists_lengths p1.isList p2.isList (by simp; omega) hu _ _ _ _ ⟨.bl _,H,I,rfl,q⟩
theorem ca4 {K:W.Frag}{H:Hp}{Q:VK}{l b:Addr}{ys zs:List Str}(h1:SqL K H l (strsV ys)) (h2:SqL K H b (strsV zs)) (h:Q (.bl (!decide (ys=zs))) H):rEqS K true (.ref l) (.ref b) H Q:=⟨l,b,ys,zs,rfl,rfl,h1,h2,h⟩
end L2
namespace L2
open PySem
inductive Tr where
 | non
 | int (i:Int)
 | str (s:Str)
 | tup (xs:List Tr)
 | lst (xs:List Tr)
mutual
def Tr.At (H:Hp):Tr→V→List Addr→Prop
 | .non,v,fs=>v=.non∧fs=[]
 | .int i,v,fs=>v=.int i∧fs=[]
 | .str s,v,fs=>v=.str s∧fs=[]
 | .tup xs,v,fs=>∃ a vs,v=.ref a∧H a=some (.tup vs)∧Tr.Ats H xs vs fs
 | .lst xs,v,fs=>∃ a vs gs,v=.ref a∧H a=some (.lst vs)∧Tr.Ats H xs vs gs∧fs=a::gs
def Tr.Ats (H:Hp):List Tr→List V→List Addr→Prop
 | [],vs,fs=>vs=[]∧fs=[]
 | x::xs,vs,fs=>∃ v ws f g,vs=v::ws∧fs=f++g∧Tr.At H x v f∧Tr.Ats H xs ws g
end
def Keep (fs:List Addr) (H H':Hp):Prop:=Tups H H'∧∀ a∈fs,∀ xs,H a=some (.lst xs)→H' a=some (.lst xs)
theorem Same.keep {H H':Hp}(s:Same H H') (fs:List Addr):Keep fs H H':=⟨s.tups,fun a _ xs h=>s a _ h⟩
theorem Keep.trans {fs:List Addr}{H H1 H2:Hp}(a:Keep fs H H1) (b:Keep fs H1 H2):Keep fs H H2:=⟨a.1.trans b.1,fun c m xs h=>b.2 c m xs (a.2 c m xs h)⟩
theorem Keep.sub {fs gs:List Addr}{H H':Hp}(k:Keep fs H H') (h:∀ a∈gs,a∈fs):Keep gs H H':=⟨k.1,fun a m=>k.2 a (h a m)⟩
mutual
theorem Tr.At.mono {H H':Hp}:∀ {x:Tr}{v:V}{fs:List Addr},x.At H v fs→Keep fs H H'→x.At H' v fs
 | .non,_,_,h,_=>by simpa only [Tr.At] using h
 | .int _,_,_,h,_=>by simpa only [Tr.At] using h
 | .str _,_,_,h,_=>by simpa only [Tr.At] using h
 | .tup xs,v,fs,h,k=>by
   simp only [Tr.At] at h ⊢
   obtain ⟨a,vs,e,g,r⟩:=h
   exact ⟨a,vs,e,k.1 _ _ g,Tr.Ats.mono r k⟩
 | .lst xs,v,fs,h,k=>by
   simp only [Tr.At] at h ⊢
   obtain ⟨a,vs,gs,e,g,r,rfl⟩:=h
   exact ⟨a,vs,gs,e,k.2 _ (by simp) _ g,Tr.Ats.mono r (k.sub fun b m=>by simp [m]),rfl⟩
theorem Tr.Ats.mono {H H':Hp}:∀ {xs:List Tr}{vs:List V}{fs:List Addr},Tr.Ats H xs vs fs→Keep fs H H'→Tr.Ats H' xs vs fs
 | [],_,_,h,_=>by simpa only [Tr.Ats] using h
 | x::xs,vs,fs,h,k=>by
   simp only [Tr.Ats] at h ⊢
   obtain ⟨v,ws,f,g,e,rfl,a,b⟩:=h
   exact ⟨v,ws,f,g,e,rfl,Tr.At.mono a (k.sub fun c m=>by simp [m]),Tr.Ats.mono b (k.sub fun c m=>by simp [m])⟩
end
theorem Tr.Ats.snoc {H:Hp}:∀ {xs:List Tr}{vs:List V}{fs gs:List Addr}{x:Tr}{v:V},Tr.Ats H xs vs fs→x.At H v gs→Tr.Ats H (xs++[x]) (vs++[v]) (fs++gs)
 | [],vs,fs,gs,x,v,h,a=>by
   simp only [Tr.Ats] at h
   obtain ⟨rfl,rfl⟩:=h
   simp only [List.nil_append,Tr.Ats]
   exact ⟨v,[],gs,[],rfl,by simp,a,rfl,rfl⟩
 | y::xs,vs,fs,gs,x,v,h,a=>by
   simp only [Tr.Ats] at h
   obtain ⟨w,ws,f,g,rfl,rfl,b,c⟩:=h
   simp only [List.cons_append,Tr.Ats]
   exact ⟨w,ws++[v],f,g++gs,rfl,by simp,b,c.snoc a⟩
theorem Tr.Ats.len {H:Hp}:∀ {xs:List Tr}{vs:List V}{fs:List Addr},Tr.Ats H xs vs fs→vs.length=xs.length
 | [],vs,fs,h=>by
   simp only [Tr.Ats] at h
   obtain ⟨rfl,rfl⟩:=h
   rfl
 | y::xs,vs,fs,h=>by
   simp only [Tr.Ats] at h
   obtain ⟨w,ws,f,g,rfl,rfl,b,c⟩:=h
   simp [c.len]
theorem Tr.Ats.get {H:Hp}:∀ {xs:List Tr}{vs:List V}{fs:List Addr},Tr.Ats H xs vs fs→∀ (i:Nat) (v:V),vs[i]?=some v→∃ x f,xs[i]?=some x∧x.At H v f∧∀ a∈f,a∈fs
 | [],vs,fs,h,i,v,e=>by
   simp only [Tr.Ats] at h
   obtain ⟨rfl,rfl⟩:=h
   simp at e
 | y::xs,vs,fs,h,i,v,e=>by
   simp only [Tr.Ats] at h
   obtain ⟨w,ws,f,g,rfl,rfl,b,c⟩:=h
   cases i with
   | zero =>
     simp at e
     subst e
     exact ⟨y,f,rfl,b,fun a m=>by simp [m]⟩
   | succ i =>
     obtain ⟨x,f',h1,h2,h3⟩:=c.get i v (by simpa using e)
     exact ⟨x,f',by simpa using h1,h2,fun a m=>by simp [h3 a m]⟩
end L2
namespace L2
open PySem PySem.Spec PyProof.Rows
mutual
def Tr.h:Tr→Nat
 | .non=>0
 | .int _=>0
 | .str _=>0
 | .tup xs=>Tr.hs xs+1
 | .lst xs=>Tr.hs xs+1
def Tr.hs:List Tr→Nat
 | []=>0
 | x::xs=>max x.h (Tr.hs xs)
end
theorem aa1 (A:Around):A.in1.units=A.units+1:=rfl
section
variable {X:Cx}{pins:List (Addr×Obj)}{σ:St} {H:Hp}{s:Shared}
end
section
variable {prog:Program}{w:World}{A:Around}{E:Value→Shared→Prop}
end
section
variable {X:Cx}{pos:Pos}
end
theorem al8 {H:Hp}{Q:VK}{l b:Addr}{xs zs:List V}(h1:H l=some (.lst xs)) (h2:H b=some (.lst zs)) (hz:xs.length+zs.length≤sizeLine) (h:Q .non (upd H l (.lst (xs++zs)))):rExtend (.ref l) [.ref b] H Q:=⟨l,b,xs,zs,rfl,rfl,h1,h2,hz,h⟩
end L2
namespace L2
open PySem
section
variable {H:Hp}{v:V}{fs:List Addr}
end
section
variable {H:Hp}{v:V}{fs:List Addr}
end
end L2
namespace L2
open PySem PySem.Spec PyProof.Rows
section
variable {X:Cx}
end
end L2
namespace L2
def keptP (ws:List (Option Nat)) (n:Nat):List Nat:=(List.range n).filter fun i=>decide (ws[i]?=some none)
def kept (ws:List (Option Nat)):List Nat:=keptP ws ws.length
end L2
namespace L2
open PySem
section
variable {prog:Program}{w:World}{K:Type} [DecidableEq K] {knd:KeyKind prog w K}{A:Around}{E:Value→Shared→Prop}{s:Shared}
theorem aj5:plainId "dict.update.loop"=true:=by decide +kernel
theorem av2:entryFor table "dict.update.loop"=some Builtin.«dict.update.loop»:=entryFor_of_fast (by kernel_rfl)
theorem be3:typeLookup (.type "list") "keys"=pure none:=am_miss_of_fast (by decide +kernel)
theorem getAttr?_miss_list {a:Addr}{o:Obj}{xs:Array Value}{k:Nat}{name:Str}{Q:Option Value→Shared→Prop}
 (hx:s.heap.get? a=some o) (hc:o.cls=.type "list") (hdat:o.data=.seq xs k) (hd:o.dict=none) (hmiss:typeLookup (.type "list") name=pure none) (hname:(["__module__","__name__","__qualname__","__doc__","__annotations__"]:List Str).contains name=false) (hA:A.handled=none)
 (h:∀ h' tk,(∀ b o,s.heap.get? b=some o→h'.get? b=some o)→Q none { s with heap:=h',toks:=tk }) (hsz:name.length+100≤sizeLine:=by size_fits) :
 wpAny (model prog w) A (getAttr? (.ref a) name) Q E s:=by
 obtain ⟨c,dct,dat,sl⟩:=o
 simp only at hc hdat hd
 subst hc hdat hd
 obtain ⟨hp,g,d,tk,os⟩:=s
 have hT:∀ tk',(⟨hp,g,d,tk',os⟩:Shared).TypeIs (.ref a) "list":=fun _=>⟨_,hx,rfl⟩
 have f1:=sub_AttributeError
 have f3:=F.slot_list_getattribute.lookup
 have f4:=F.slot_list_getattribute.bind (.ref a)
 have f5:=am_list_getattr_none
 unfold getAttr? getAttrBy? getAttrBy
 repeat (any_goals (first | assumption | exact hT _ | ((with_reducible show wpAny _ _ (call (Value.builtin "list.__getattribute__") _ _) _ _ _); refine call_meets F.slot_list_getattribute (hT _) am_entry_list_getattribute (F.args_list_getattribute_2 _ _) (meets_getattribute_miss_list a xs k sl name _ hmiss hname hsz) ⟨hx,hA,fun h' tk' e hx'=>?_⟩) | wp_step))
 obtain ⟨t',u',he⟩:=hx'.there
 show wpAny _ _ (getattributeRaised _ _ _ _ _ _ _) _ _ _
 unfold getattributeRaised
 repeat (any_goals (first | assumption | wp_step))
 exact h _ _ hx'.keeps
end
section
variable {prog:Program}{w:World}{K:Type} [DecidableEq K] {knd:KeyKind prog w K}{A:Around}{E:Value→Shared→Prop}{s:Shared}
end
end L2
namespace L2
open PySem PySem.Spec PyProof.Rows
section
variable {X:Cx}{pins:List (Addr×Obj)}{σ:St} {H:Hp}{s:Shared}
theorem Inv.turnedL {t':Nat}{h':Heap}{ch:List Addr}(I:Inv X pins σ H s) (k:∀ b o,b∉ch→s.heap.get? b=some o→h'.get? b=some o) (hf:∀ b∈ch,FpOk X pins H b):Inv X pins σ H { s with heap:=h',toks:=t' }:=by
 have nit:∀ b u,H b=some u→b∉ch:=fun b u e z=>by rw [(hf b z).1] at e; cases e
 refine I.step (g':=s.gens) (d':=s.drawn) (ch:=ch) (fun b hb=>⟨(hf b hb).2.2.2.1,(hf b hb).2.1,(hf b hb).2.2.2.2.1,(hf b hb).2.2.2.2.2⟩) (fun b o _ _ hc e _=>k b o hc e) (fun b o _ _ hc e _=>⟨o.slots,k b o hc e⟩) (fun _ _ _ _ n=>n)
  (fun b o hc e=>⟨o,k b o hc e⟩) (fun _ _ e=>e) (fun _ _ _ e=>e) (fun b ps e=>⟨#[],by rw [e]; simp⟩) (fun m hm=>?_) (fun b u e=>?_) I.bare
 · obtain ⟨o,es,ep,ho,r⟩:=hm
   exact ⟨o,es,ep,k _ o (fun z=>(hf _ z).2.1 rfl) ho,r⟩
 · refine (I.hok b u e).stay (fun c v hc q=>k c v ?_ q) (fun _ q=>q) fun _ _ q=>q
   rcases hc with z | z
   · rw [z]; exact nit b u e
   · exact nit c _ z
end
def Ite (K:W.Frag) (a:Addr):It :=
 ⟨fun i H=>∃ xs x,SqL K H a xs∧xs[i]?=some x,fun i H v H'=>∃ p y,v=.ref p∧H p=none∧Same H H'∧H' p=some (.tup [.int (i:Nat),y])∧∀ xs,SqL K H a xs→xs[i]?=some y,fun i H=>∃ xs,SqL K H a xs∧xs.length≤i⟩
theorem be4 {P:Program}{w:World}{K:W.Frag}{elts:List Expr}{x1:Nat}{pos:Pos}(a e it:Addr) (hne:e≠it) :
 Turn P w K (.Tuple elts x1 pos) (Ite K a) [e,it] e (fun i h=>(∃ old,IsEnum h e it (i:Nat) old)∧h.IsListIter it a i) where
 mem:=by simp
 obj:=fun i h st b hb=>by
  obtain ⟨⟨old,he⟩,o,e2,c,d⟩:=st
  rcases (by simpa using hb:b=e∨b=it) with rfl | rfl
  · exact ⟨_,he,fun v z=>by cases z⟩
  · exact ⟨o,e2,fun v z=>by rw [d] at z; cases z⟩
 keep:=fun i h h' st k=>⟨let ⟨old,he⟩:=st.1; ⟨old,k e (by simp) _ he⟩,st.2.at fun o x=>k it (by simp) o x⟩
 item:=by
  intro X hP hw hK hc i pins s σ H E I hf st hg
  subst hP hw hK
  obtain ⟨xs,x,hq,hx⟩:=hg
  obtain ⟨its,rv,p,hz⟩:=I.list hq
  obtain ⟨u,hu,ru⟩:=rv.get hx
  obtain ⟨⟨old,he⟩,hit⟩:=st
  have helt:e<s.heap.objs.size:=Heap.lt_size he
  have hilt:it<s.heap.objs.size:=by obtain ⟨_,q,_⟩:=hit; exact Heap.lt_size q
  refine wpAny_pyNext_enum_item he hit p.isList (x:=u) (by simpa using hu) hne fun h' ho hit' hT hsz hk=>?_
  have fr:H s.heap.objs.size=none:=I.hok.fresh (Nat.le_refl _)
  have I1:Inv X pins σ H { s with heap:=h',toks:=s.toks+1 }:=I.turnedL (ch:=[e,it]) (fun b o hb q=>hk b o (fun z=>hb (by simp [z])) (fun z=>hb (by simp [z])) q) hf
  have I2:Inv X pins σ (upd H s.heap.objs.size (.tup [.int (i:Nat),x])) { s with heap:=h',toks:=s.toks+1 }:=I1.adopt (o:=.tup [.int (i:Nat),x]) fr I.sz (Nat.ne_of_gt I.lt) (fun y c ec z=>by
   obtain ⟨v,q⟩:=I.cell y c ec
   exact absurd q.lt (by rw [z]; exact Nat.lt_irrefl _)) (fun q hq z=>absurd (Heap.lt_size (I.pin q hq).1) (by rw [z]; exact Nat.lt_irrefl _))
   ⟨le_line (by simp),[.int (i:Nat) s.toks,u],.cons ⟨_,rfl⟩ (.cons ru .nil),⟨_,hT,rfl,_,rfl⟩⟩
  have ne:∀ b∈[e,it],b≠s.heap.objs.size:=fun b hb=>by
   rcases (by simpa using hb:b=e∨b=it) with rfl | rfl
   · exact Nat.ne_of_lt helt
   · exact Nat.ne_of_lt hilt
  have hf2:∀ b∈[e,it],FpOk X pins (upd H s.heap.objs.size (.tup [.int (i:Nat),x])) b:=fun b hb=>⟨by rw [a09 (ne b hb)]; exact (hf b hb).1,(hf b hb).2⟩
  refine ⟨_,rfl,wpAny_letOwnedTupleGo_enum ho fun h2 he2 hs2=>⟨.ref s.heap.objs.size,_,I2.turnedL (t':=s.toks+1) (ch:=[e]) (fun b o hb q=>(hs2.2 b (fun z=>hb (by simp [z]))).trans q) (fun b hb=>hf2 b (by simp at hb; simp [hb])),rfl,⟨s.heap.objs.size,x,rfl,fr,Same.new fr,a41,fun ys hy=>by rw [I.list_inj hy hq]; exact hx⟩,⟨⟨_,by simpa using he2⟩,hit'.at fun o q=>(hs2.2 it (Ne.symm hne)).trans q⟩,fun b hb=>(hf2 b hb).1⟩⟩
 done:=by
  intro X hP hw hK hc i pins s σ H E I hf st hg
  subst hP hw hK
  obtain ⟨xs,hq,hx⟩:=hg
  obtain ⟨its,rv,p,hz⟩:=I.list hq
  obtain ⟨⟨old,he⟩,hit⟩:=st
  have hl:=rv.length
  exact wpAny_pyNext_enum_end (I.ok.hd hc) he hit p.isList (by simp; omega) fun h' eb=>⟨rfl,I.turnedL (t':=s.toks) (ch:=[it]) (fun b o hb q=>eb b o (fun z=>hb (by simp [z])) q) (fun b hb=>hf b (by simp at hb; simp [hb]))⟩
 self:=fun A i s Q E st h=>let ⟨old,he⟩:=st.1; wpAny_pyIter_enum he h
section
variable {X:Cx}{elts:List Expr}{x1:Nat}{tpos:Pos}
def iEnum (K:W.Frag) (ta:TA):TI:=fun σ H R=>ta σ H fun vs H1=>∃ a,vs=[.ref a]∧(∃ xs,SqL K H1 a xs)∧R (Ite K a) H1
theorem bx8 (K:W.Frag) {a:Expr}{ta:TA}{p pos:Pos}(hg:Gl X "enumerate") (hm:X.mg "enumerate"=none) (ha:PA X [a] ta) (hs:starEach [a] X.env=[(false,eval a X.env)]:=by rfl) (hK:X.K=K:=by rfl):PI X (.Tuple elts x1 tpos) (.Call (.Name "enumerate" p) [a] [] pos) (iEnum K ta):=by
 subst hK
 intro pins s σ H R I h
 refine Call_ (al3 I hg hm boot_enumerate (PyProof.Rows.callWith_type1 (thn (ha pos pins s σ H _ I h) fun us s1 ⟨vs,H1,I1,r1,q1⟩=>?_) hs rfl))
 obtain ⟨l,e,⟨xs,hq⟩,q⟩:=q1
 subst e
 obtain ⟨u,rfl,ru⟩:=b74 r1
 cases ru
 obtain ⟨its,rv,pl,hz⟩:=I1.list hq
 refine call_enumerate_list pl.isList fun h' he hit hsz hk=>?_
 refine wpAny_pyIter_enum he ?_
 refine ⟨s1.heap.objs.size+1,[s1.heap.objs.size+1,s1.heap.objs.size],_,_,H1,rfl,I1.kept (t':=s1.toks) hk,be4 l _ _ (Nat.succ_ne_self _),⟨⟨_,he⟩,hit⟩,fun b hb=>?_,q⟩
 have hb':s1.heap.objs.size≤b:=by
  rcases (by simpa using hb:b=s1.heap.objs.size+1∨b=s1.heap.objs.size) with rfl | rfl <;> omega
 exact I1.fpOk hb' (I1.hok.fresh hb')
theorem ca5 {K:W.Frag}{σ:St} {H:Hp}{R:It→Hp→Prop}{ts:TA}(h:ts σ H fun vs H1=>∃ a,vs=[.ref a]∧(∃ xs,SqL K H1 a xs)∧R (Ite K a) H1):iEnum K ts σ H R:=h
theorem ca6 {a:Addr}{p:Addr→Prop}(h:p a):∃ b,[V.ref a]=[V.ref b]∧p b:=⟨a,rfl,h⟩
end
section
variable {X:Cx}
def ca7:List V→Hp→VK→Prop:=fun xs H Q=>∃ a b:Int,xs=[.int a,.int b]∧Q (.int (min a b)) H
theorem aq0 (hh:X.calm=true:=by rfl):CallR X (.builtin "min") ca7:=by
 intro pins s σ H xs us Q I r h
 obtain ⟨a,b,rfl,q⟩:=h
 obtain ⟨u,v,rfl,⟨t1,rfl⟩,⟨t2,rfl⟩⟩:=bl9 r
 refine min_two_ints (I.ok.hd hh) fun h' tk hk=>?_
 have I1:Inv X pins σ H { s with heap:=h',toks:=tk }:=I.kept hk
 by_cases c:b<a
 · rw [if_pos c]
   exact ⟨.int b,H,I1,⟨_,rfl⟩,by rw [show min a b=b by omega] at q; exact q⟩
 · rw [if_neg c]
   exact ⟨.int a,H,I1,⟨_,rfl⟩,by rw [show min a b=a by omega] at q; exact q⟩
theorem ca8 {H:Hp}{Q:VK}{a b:Int}(h:Q (.int (min a b)) H):ca7 [.int a,.int b] H Q:=⟨a,b,rfl,h⟩
def rIsN:R2:=fun x y H Q=>y=.non∧Q (.bl (decide (x=.non))) H
def rNotN:R2:=fun x y H Q=>y=.non∧Q (.bl (!decide (x=.non))) H
theorem am4:OpR X (compareOp .Is) rIsN:=c60
theorem bn9:OpR X (compareOp .IsNot) rNotN:=bv5
theorem ch3 {x:V}{H:Hp}{Q:VK}(h:Q (.bl (decide (x=.non))) H):rIsN x .non H Q:=⟨rfl,h⟩
theorem ca9 {x:V}{H:Hp}{Q:VK}(h:Q (.bl (!decide (x=.non))) H):rNotN x .non H Q:=⟨rfl,h⟩
theorem cb0 {to ti:TE}{t:TSet}{v:V}{σ:St} {H:Hp}{Q:St→Hp→Prop}(h:to σ H fun o H1=>ti σ H1 fun i H2=>t o i v H2 fun H3=>Q σ H3):gSub to ti t v σ H Q:=h
theorem be5 {H:Hp}{Q:Hp→Prop}{p:Addr}{xs:List V}{k:Int}{j:Nat}{v:V}(h1:H p=some (.lst xs)) (h2:ixN xs.length k=some j) (h:Q (upd H p (.lst (xs.set j v)))):rSetL (.ref p) (.int k) v H Q:=⟨p,xs,k,j,rfl,rfl,h1,h2,h⟩
def tSeqC (t u:TS):TS:=fun D σ H=>∃ R:St→Hp→Prop,t { D with nx:=R } σ H∧∀ σ' H',R σ' H'→u D σ' H'
theorem av3 {st:Stmt}{rest:List Stmt}{t u:TS}(h1:PS X st t) (h2:PSs X rest u):PSs X (st::rest) (tSeqC t u):=by
 intro pins s σ H D I h
 obtain ⟨R,ha,hb⟩:=h
 refine wpAny_execs_cons (thn (h1 pins s σ H _ I ha) fun f s1 q=>?_)
 cases f with
 | next=>obtain ⟨σ1,H1,I1,q1⟩:=q; exact h2 pins s1 σ1 H1 D I1 (hb σ1 H1 q1)
 | brk=>exact q
 | cont=>exact q
 | ret v=>exact q
theorem bu0 {t u:TS}{nn bb cc:St→Hp→Prop}{rr:VK}{σ:St} {H:Hp}(R:St→Hp→Prop) (h1:t ⟨R,rr,bb,cc⟩ σ H) (h2:∀ σ' H',R σ' H'→u ⟨nn,rr,bb,cc⟩ σ' H'):tSeqC t u ⟨nn,rr,bb,cc⟩ σ H:=⟨R,h1,h2⟩
theorem rT {R:Bool→Hp→Prop}{H:Hp}{c:Prop} [Decidable c] (h:R (decide c) H) (hc:c):R true H:=by rw [decide_eq_true hc] at h; exact h
theorem as0 {c:TT}{tb:TS}{nn bb cc:St→Hp→Prop}{rr:VK}{σ:St} {H:Hp}(W:Nat→St→Hp→Prop) (m:Nat) (h0:W m σ H)
 (hs:∀ m σ H,W m σ H→c σ H fun b H1=>if b=true then ∃ N:St→Hp→Prop,(∀ σ' H',N σ' H'→∃ m',m'<m∧W m' σ' H')∧tb ⟨N,rr,nn,N⟩ σ H1 else nn σ H1):tWhile c tb ⟨nn,rr,bb,cc⟩ σ H:=⟨W,⟨m,h0⟩,hs⟩
end
end L2
namespace L2
open PySem
section
variable {H:Hp}{x:Tr}{xs:List Tr}{v:V}{vs ws:List V}
theorem ats_nil0:Tr.Ats H [] vs []↔vs=[]:=by simp [Tr.Ats]
theorem ats_cons0:Tr.Ats H (x::xs) vs []↔∃ v ws,vs=v::ws∧x.At H v []∧Tr.Ats H xs ws []:=by
 simp only [Tr.Ats]
 constructor
 · rintro ⟨v,ws,f,g,h1,h2,h3,h4⟩
   obtain ⟨rfl,rfl⟩:=List.append_eq_nil_iff.mp h2.symm
   exact ⟨v,ws,h1,h3,h4⟩
 · rintro ⟨v,ws,h1,h3,h4⟩
   exact ⟨v,ws,[],[],h1,rfl,h3,h4⟩
theorem at_tup0:(Tr.tup xs).At H v []↔∃ a vs,v=.ref a∧H a=some (.tup vs)∧Tr.Ats H xs vs []:=by simp only [Tr.At]
theorem at_int0 {i:Int}:(Tr.int i).At H v []↔v=.int i:=by simp [Tr.At]
theorem at_str0 {i:Str}:(Tr.str i).At H v []↔v=.str i:=by simp [Tr.At]
theorem ats_app0:∀ {xs ys:List Tr}{vs:List V},Tr.Ats H (xs++ys) vs []↔∃ us ws,vs=us++ws∧Tr.Ats H xs us []∧Tr.Ats H ys ws []
 | [],ys,vs=>by
   constructor
   · intro h; exact ⟨[],vs,rfl,ats_nil0.mpr rfl,h⟩
   · rintro ⟨us,ws,rfl,h1,h2⟩
     rw [ats_nil0.mp h1]
     exact h2
 | x::xs,ys,vs=>by
   constructor
   · intro h
     obtain ⟨v,ws,rfl,h1,h2⟩:=ats_cons0.mp h
     obtain ⟨us,zs,rfl,h3,h4⟩:=ats_app0.mp h2
     exact ⟨v::us,zs,rfl,ats_cons0.mpr ⟨v,us,rfl,h1,h3⟩,h4⟩
   · rintro ⟨us,ws,rfl,h1,h2⟩
     obtain ⟨v,us',rfl,h3,h4⟩:=ats_cons0.mp h1
     exact ats_cons0.mpr ⟨v,us'++ws,rfl,h3,ats_app0.mpr ⟨us',ws,rfl,h4,h2⟩⟩
theorem Tr.At.same {H H':Hp}(h:x.At H v []) (s:Same H H'):x.At H' v []:=h.mono (s.keep _)
theorem Tr.Ats.same {H H':Hp}(h:Tr.Ats H xs vs []) (s:Same H H'):Tr.Ats H' xs vs []:=h.mono (s.keep _)
end
section
variable {H:Hp}{v:V}{a:Addr}
theorem ay8 {x y:Tr}{u v:V}(e:H a=some (.tup [u,v])) (h:x.At H u []) (h2:y.At H v []):(Tr.tup [x,y]).At H (.ref a) []:=at_tup0.mpr ⟨a,_,rfl,e,ats_cons0.mpr ⟨_,_,rfl,h,ats_cons0.mpr ⟨_,_,rfl,h2,ats_nil0.mpr rfl⟩⟩⟩
theorem am5 {i:Int}:(Tr.int i).At H (.int i) []:=at_int0.mpr rfl
theorem ag8 {i:Str}:(Tr.str i).At H (.str i) []:=at_str0.mpr rfl
end
def natsV (l:List Nat):List V:=l.map fun k=>V.int (k:Nat)
theorem av4 (l:List Nat):natsV l=(l.map fun (k:Nat)=>(k:Int)).map V.int:=by simp [natsV]
theorem a56 (l:List Nat):(natsV l).length=l.length:=by simp [natsV]
theorem bo0 {l:List Nat}{k:Nat}(h:k<l.length):atI (natsV l) (k:Nat)=some (.int (l.getD k 0:Nat)):=a04 (by simp [natsV,h])
theorem ac0 (l:List Nat) (k:Nat):natsV l++[V.int (k:Nat)]=natsV (l++[k]):=by simp [natsV]
end L2
namespace L2
open PySem PySem.Spec PyProof.Rows
section
variable {σ:St} {H:Hp}{Q:VK}{QT:Bool→Hp→Prop}{td ty tv te:TE}{nn bb cc:St→Hp→Prop}{rr:VK}
theorem i_tB (h:te σ H fun x H1=>∃ c,x=.bl c∧QT c H1):tB te σ H QT:=h
theorem ch4 (h:ty σ H fun y H1=>td σ H1 fun x H2=>∃ a o,x=.ref a∧DGet H2 a y o∧Q (.bl o.isSome) H2):tDIn ty td σ H Q:=h
theorem cb1 (h:tv σ H fun v H1=>td σ H1 fun x H2=>ty σ H2 fun y H3=>∃ a H4,x=.ref a∧DPut H3 a y v H4∧nn σ H4):sDPut td ty tv ⟨nn,rr,bb,cc⟩ σ H:=h
end
end L2
namespace L2
def addAll (row:List Nat) (ks:List Nat):List Nat:=ks.foldl (fun r k=>if k∈r then r else r++[k]) row
theorem ab6 (row ks:List Nat) (k:Nat):addAll row (ks++[k])=if k∈addAll row ks then addAll row ks else addAll row ks++[k]:=by
 unfold addAll
 rw [List.foldl_append]
 rfl
theorem ag9 {n:Nat}{row:List Nat}(hn:row.Nodup) (hl:∀ k∈row,k<n):∀ (ks:List Nat),(∀ k∈ks,k<n)→(∃ t,addAll row ks=row++t)∧(addAll row ks).Nodup∧(∀ k∈addAll row ks,k<n)∧∀ k∈ks,k∈addAll row ks:=by
 have gen:∀ (m:Nat) (ks:List Nat),ks.length=m→(∀ k∈ks,k<n)→(∃ t,addAll row ks=row++t)∧(addAll row ks).Nodup∧(∀ k∈addAll row ks,k<n)∧∀ k∈ks,k∈addAll row ks:=by
  intro m
  induction m with
  | zero =>
    intro ks hk _
    rw [List.length_eq_zero_iff] at hk
    subst hk
    exact ⟨⟨[],by simp [addAll]⟩,hn,hl,by simp⟩
  | succ m ih =>
    intro ks hk hlt
    obtain ⟨ls,k,rfl⟩:∃ l k,ks=l++[k]:=⟨ks.dropLast,ks.getLast (by intro z; rw [z] at hk; simp at hk),(List.dropLast_concat_getLast _).symm⟩
    obtain ⟨⟨t,h1⟩,h2,h3,h4⟩:=ih ls (by simpa using hk) (fun x hx=>hlt x (by simp [hx]))
    rw [ab6]
    by_cases hk:k∈addAll row ls
    · rw [if_pos hk]
      refine ⟨⟨t,h1⟩,h2,h3,fun x hx=>?_⟩
      rcases gA hx with hx | hx
      · exact h4 x hx
      · rw [gG hx]; exact hk
    · rw [if_neg hk]
      refine ⟨⟨t++[k],by rw [h1,List.append_assoc]⟩,?_,?_,?_⟩
      · rw [List.nodup_append]
        refine ⟨h2,by simp,fun a ha b hb=>?_⟩
        rw [gG hb]
        exact fun z=>hk (z ▸ ha)
      · intro x hx
        rcases gA hx with hx | hx
        · exact h3 x hx
        · rw [gG hx]; exact hlt k (by simp)
      · intro x hx
        rcases gA hx with hx | hx
        · exact List.mem_append_left _ (h4 x hx)
        · rw [gG hx]; simp
 exact fun ks=>gen ks.length ks rfl
theorem pigeon:∀ (n:Nat) (l:List Nat),l.Nodup→(∀ k∈l,k<n)→l.length≤n
 | 0,l,_,h=>by
   cases l with
   | nil=>simp
   | cons a l=>exact absurd (h a (by simp)) (Nat.not_lt_zero _)
 | n+1,l,hn,h=>by
   by_cases hm:n∈l
   · have h1:=List.length_erase_of_mem hm
     have h2:=pigeon n (l.erase n) (hn.erase n) (fun k hk=>by
      have h3:=hn.mem_erase_iff.mp hk
      have:=h k h3.2
      have:=h3.1
      omega)
     have:0<l.length:=List.length_pos_of_mem hm
     omega
   · have:=pigeon n l hn (fun k hk=>by
      have h1:=h k hk
      have:k≠n:=fun z=>hm (z ▸ hk)
      omega)
     omega
structure Bf (nx:Nat→List Nat) (n p:Nat) (row:List Nat):Prop where
 nd:row.Nodup
 lt:∀ k∈row,k<n
 le:p≤row.length
 cl:∀ (i k:Nat),i<p→row[i]?=some k→∀ j∈nx k,j∈row
theorem Bf.step {nx:Nat→List Nat}{n p k:Nat}{row:List Nat}(h:Bf nx n p row) (e:row[p]?=some k) (hx:∀ j∈nx k,j<n):Bf nx n (p+1) (addAll row (nx k)):=by
 obtain ⟨⟨t,h1⟩,h2,h3,h4⟩:=ag9 h.nd h.lt (nx k) hx
 have hp:=(gS e).1
 refine ⟨h2,h3,by rw [h1,List.length_append]; omega,fun i k' hi ek j hj=>?_⟩
 have hi':i<row.length:=by omega
 rw [h1,List.getElem?_append_left hi'] at ek
 by_cases hip:i<p
 · rw [h1]; exact List.mem_append_left _ (h.cl i k' hip ek j hj)
 · have:i=p:=by omega
   subst this
   rw [e] at ek
   cases ek
   exact h4 j hj
theorem Bf.few {nx:Nat→List Nat}{n p:Nat}{row:List Nat}(h:Bf nx n p row):row.length≤n:=pigeon n row h.nd h.lt
end L2
namespace L2
open PySem PySem.Spec PyProof.Rows
section
variable {X:Cx}{σ:St} {H:Hp}{Q:VK}{QT:Bool→Hp→Prop}{td ty tv te:TE}{nn bb cc:St→Hp→Prop}{rr:VK}
theorem bu1 {i:Nat}{a c:Int}{f:Int→Int→Int}(e:σ[i]?=some (some (.int a))) (h:nn (σ.set i (some (.int (f a c)))) H):tAug i (tC (.int c)) (ipI f) ⟨nn,rr,bb,cc⟩ σ H:=⟨_,e,a,c,rfl,rfl,h⟩
def SetI (H:Hp) (d:Addr) (row:List Nat):Prop:=∃ kvs,H d=some (.dK kvs)∧kvs.length≤row.length∧∀ k:Nat,(valV kvs (Sum.inl (k:Int))).isSome=decide (k∈row)
theorem SetI.mono {H':Hp}{d:Addr}{row:List Nat}(h:SetI H d row) (s:Same H H'):SetI H' d row:=by
 obtain ⟨kvs,h1,h2,h3⟩:=h
 exact ⟨kvs,s _ _ h1,h2,h3⟩
theorem SetI.put {d:Addr}{row:List Nat}{k:Nat}{v:V}(h:SetI H d row) (hz:row.length<1000000):∃ H4,DPut H d (.int (k:Nat)) v H4∧SetI H4 d (row++[k])∧∃ o,H4=upd H d (.dK o):=by
 obtain ⟨kvs,h2,h3,h4⟩:=h
 refine ⟨_,.inl ⟨kvs,Sum.inl (k:Int),h2,rfl,Nat.lt_of_lt_of_le (show kvs.length<1000000 by omega) (le_line (Nat.le_refl _)),rfl⟩,⟨putK kvs (Sum.inl (k:Int)) v,a41,?_,fun s=>?_⟩,_,rfl⟩
 · have:=a98 kvs (Sum.inl (k:Int)) v
   simp only [List.length_append,List.length_cons,List.length_nil]
   omega
 · rw [ar8]
   by_cases e:s=k
   · subst e
     rw [if_pos rfl]
     simp
   · rw [if_neg (fun z=>e (by have:=Sum.inl.inj z; omega)),h4]
     simp [e]
theorem bo1 {d:Addr}{k:Nat}{v:V}(h:H d=some (.dK [(Sum.inl (k:Int),v)])):SetI H d [k]:=⟨_,h,Nat.le_refl _,fun s=>by
 by_cases e:s=k
 · subst e
   rw [aa4 rfl]
   simp
 · rw [aa5 (fun z=>e (by have:=Sum.inl.inj z; omega)),bm6]
   simp [e]⟩
end
def Itz (K:W.Frag) (a b:Addr):It :=
 ⟨fun i H=>∃ xs ys x y,SqL K H a xs∧SqL K H b ys∧xs[i]?=some x∧ys[i]?=some y,fun i H v H'=>∃ p x y,v=.ref p∧H p=none∧Same H H'∧H' p=some (.tup [x,y])∧(∀ xs,SqL K H a xs→xs[i]?=some x)∧∀ ys,SqL K H b ys→ys[i]?=some y,fun i H=>∃ xs ys,SqL K H a xs∧SqL K H b ys∧(xs.length≤i∨ys.length≤i)⟩
theorem bo2 {P:Program}{w:World}{K:W.Frag}{elts:List Expr}{x1:Nat}{pos:Pos}(a b z TI TO i1 i2:Addr) (D:ZipApart z TI TO i1 i2 a b) :
 Turn P w K (.Tuple elts x1 pos) (Itz K a b) [z,TI,TO,i1,i2] z (fun i h=>IsZip h z TI TO .none∧IsPair h TI (.ref i1) (.ref i2)∧(∃ a b,IsPair h TO a b)∧h.IsListIter i1 a i∧h.IsListIter i2 b i) where
 mem:=by simp
 obj:=fun i h st c hc=>by
  obtain ⟨hz,hTI,⟨a,b,hTO⟩,⟨o1,h1,_,d1⟩,o2,h2,_,d2⟩:=st
  rcases (by simpa using hc:c=z∨c=TI∨c=TO∨c=i1∨c=i2) with rfl | rfl | rfl | rfl | rfl
  · exact ⟨_,hz,fun v q=>by cases q⟩
  · exact ⟨_,hTI,fun v q=>by cases q⟩
  · exact ⟨_,hTO,fun v q=>by cases q⟩
  · exact ⟨_,h1,fun v q=>by rw [d1] at q; cases q⟩
  · exact ⟨_,h2,fun v q=>by rw [d2] at q; cases q⟩
 keep:=fun i h h' st k=>by
  obtain ⟨hz,hTI,⟨a,b,hTO⟩,h1,h2⟩:=st
  exact ⟨k z (by simp) _ hz,k TI (by simp) _ hTI,⟨a,b,k TO (by simp) _ hTO⟩,h1.at fun o x=>k i1 (by simp) o x,h2.at fun o x=>k i2 (by simp) o x⟩
 item:=by
  intro X hP hw hK hc i pins s σ H E I hf st hg
  subst hP hw hK
  obtain ⟨xs,ys,x,y,hqa,hqb,hx,hy⟩:=hg
  obtain ⟨it1,rv1,p1,hz1⟩:=I.list hqa
  obtain ⟨it2,rv2,p2,hz2⟩:=I.list hqb
  obtain ⟨u1,hu1,ru1⟩:=rv1.get hx
  obtain ⟨u2,hu2,ru2⟩:=rv2.get hy
  obtain ⟨hz,hTI,⟨a',b',hTO⟩,h1,h2⟩:=st
  have fr:H s.heap.objs.size=none:=I.hok.fresh (Nat.le_refl _)
  have lt:∀ c∈[z,TI,TO,i1,i2],c<s.heap.objs.size:=fun c hc=>by
   obtain ⟨o1,e1,_⟩:=h1
   obtain ⟨o2,e2,_⟩:=h2
   rcases (by simpa using hc:c=z∨c=TI∨c=TO∨c=i1∨c=i2) with rfl | rfl | rfl | rfl | rfl
   · exact Heap.lt_size hz
   · exact Heap.lt_size hTI
   · exact Heap.lt_size hTO
   · exact Heap.lt_size e1
   · exact Heap.lt_size e2
  refine wpAny_pyNext_zip_item D hz hTI hTO h1 h2 p1.isList p2.isList (x:=u1) (y:=u2) (by simpa using hu1) (by simpa using hu2) fun h' a1 a2 a3 a4 a5 a6 hk=>?_
  have I1:Inv X pins σ H { s with heap:=h' }:=I.turnedL (t':=s.toks) (ch:=[z,TI,TO,i1,i2]) (fun c o hc q=>hk c o (fun e=>hc (by simp [e])) (fun e=>hc (by simp [e])) (fun e=>hc (by simp [e])) (fun e=>hc (by simp [e])) q) hf
  have I2:Inv X pins σ (upd H s.heap.objs.size (.tup [x,y])) { s with heap:=h' }:=I1.adopt (o:=.tup [x,y]) fr I.sz (Nat.ne_of_gt I.lt) (fun n c ec e=>by
   obtain ⟨v,q⟩:=I.cell n c ec
   exact absurd q.lt (by rw [e]; exact Nat.lt_irrefl _)) (fun q hq e=>absurd (Heap.lt_size (I.pin q hq).1) (by rw [e]; exact Nat.lt_irrefl _))
   ⟨le_line (by simp),[u1,u2],.cons ru1 (.cons ru2 .nil),⟨_,a5,rfl,_,rfl⟩⟩
  have hf2:∀ c∈[z,TI,TO,i1,i2],FpOk X pins (upd H s.heap.objs.size (.tup [x,y])) c:=fun c hc=>⟨by rw [a09 (Nat.ne_of_lt (lt c hc))]; exact (hf c hc).1,(hf c hc).2⟩
  refine ⟨_,rfl,wpAny_letOwnedTupleGo_zip a1 fun h2' hz' hs'=>⟨.ref s.heap.objs.size,_,I2.turnedL (t':=s.toks) (ch:=[z]) (fun c o hc q=>(hs'.2 c (fun e=>hc (by simp [e]))).trans q) (fun c hc=>hf2 c (by simp at hc; simp [hc])),rfl,⟨s.heap.objs.size,x,y,rfl,fr,Same.new fr,a41,fun q hq=>by rw [I.list_inj hq hqa]; exact hx,fun q hq=>by rw [I.list_inj hq hqb]; exact hy⟩,⟨hz',hs'.extBut _ _ D.TIz (hk _ _ D.TIz D.TITO D.TIi1 D.TIi2 hTI),⟨_,_,hs'.extBut _ _ D.TOz a2⟩,a3.extBut hs'.extBut D.i1z,a4.extBut hs'.extBut D.i2z⟩,fun c hc=>(hf2 c hc).1⟩⟩
 done:=by
  intro X hP hw hK hc i pins s σ H E I hf st hg
  subst hP hw hK
  obtain ⟨xs,ys,hqa,hqb,hx⟩:=hg
  obtain ⟨it1,rv1,p1,hz1⟩:=I.list hqa
  obtain ⟨it2,rv2,p2,hz2⟩:=I.list hqb
  obtain ⟨hz,hTI,⟨a',b',hTO⟩,h1,h2⟩:=st
  have l1:=rv1.length
  have l2:=rv2.length
  exact wpAny_pyNext_zip_end (I.ok.hd hc) D hz hTI hTO h1 h2 p1.isList p2.isList (hx.elim (fun e=>.inl (by simp; omega)) fun e=>.inr (by simp; omega)) fun h' hk=>⟨rfl,I.turnedL (t':=s.toks) (ch:=[z,TI,TO,i1,i2]) (fun c o hc q=>hk c o (fun e=>hc (by simp [e])) (fun e=>hc (by simp [e])) (fun e=>hc (by simp [e])) (fun e=>hc (by simp [e])) q) hf⟩
 self:=fun A i s Q E st h=>wpAny_pyIter_zip st.1 h
section
variable {X:Cx}{elts:List Expr}{x1:Nat}{tpos:Pos}
def iZip (K:W.Frag) (ta:TA):TI:=fun σ H R=>ta σ H fun vs H1=>∃ a b,vs=[.ref a,.ref b]∧(∃ xs,SqL K H1 a xs)∧(∃ ys,SqL K H1 b ys)∧R (Itz K a b) H1
theorem be6:bootBuiltins "zip"=some (.type "zip"):=by decide +kernel
theorem bu2 (K:W.Frag) {a b:Expr}{ta:TA}{p pos:Pos}(hg:Gl X "zip") (hm:X.mg "zip"=none) (ha:PA X [a,b] ta) (hs:starEach [a,b] X.env=[(false,eval a X.env),(false,eval b X.env)]:=by rfl) (hs2:starEach [b] X.env=[(false,eval b X.env)]:=by rfl) (hK:X.K=K:=by rfl) :
 PI X (.Tuple elts x1 tpos) (.Call (.Name "zip" p) [a,b] [] pos) (iZip K ta):=by
 subst hK
 intro pins s σ H R I h
 refine Call_ (al3 I hg hm be6 (PyProof.Rows.callWith_type1 (thn (ha pos pins s σ H _ I h) fun us s1 ⟨vs,H1,I1,r1,q1⟩=>?_) (by rw [hs,hs2]) (by rw [hs2]; rfl)))
 obtain ⟨l1,l2,e,⟨xs,hq1⟩,⟨ys,hq2⟩,q⟩:=q1
 subst e
 obtain ⟨u1,u2,rfl,r2,r3⟩:=bl9 r1
 cases r2
 cases r3
 obtain ⟨it1,rv1,p1,hz1⟩:=I1.list hq1
 obtain ⟨it2,rv2,p2,hz2⟩:=I1.list hq2
 have a1:l1<s1.heap.objs.size:=by obtain ⟨_,e,_⟩:=p1.isList; exact Heap.lt_size e
 have a2:l2<s1.heap.objs.size:=by obtain ⟨_,e,_⟩:=p2.isList; exact Heap.lt_size e
 refine call_zip_2 p1.isList p2.isList fun h' b1 b2 b3 b4 b5 b6 hk=>?_
 refine wpAny_pyIter_zip b1 ?_
 have ge:∀ c∈[s1.heap.objs.size+4,s1.heap.objs.size+2,s1.heap.objs.size+3,s1.heap.objs.size,s1.heap.objs.size+1],s1.heap.objs.size≤c:=fun c hc=>by
  simp only [List.mem_cons,List.not_mem_nil,or_false] at hc
  rcases hc with rfl | rfl | rfl | rfl | rfl
  · exact Nat.le_add_right _ _
  · exact Nat.le_add_right _ _
  · exact Nat.le_add_right _ _
  · exact Nat.le_refl _
  · exact Nat.le_add_right _ _
 have fp:∀ c∈[s1.heap.objs.size+4,s1.heap.objs.size+2,s1.heap.objs.size+3,s1.heap.objs.size,s1.heap.objs.size+1],FpOk X pins H1 c:=fun c hc=>I1.fpOk (ge c hc) (I1.hok.fresh (ge c hc))
 generalize s1.heap.objs.size=m at a1 a2 b1 b2 b3 b4 b5 b6 fp ⊢
 have D:ZipApart (m+4) (m+2) (m+3) m (m+1) l1 l2:=by
  have h1:l1<m:=a1
  have h2:l2<m:=a2
  constructor <;> first | exact Nat.ne_of_lt (Nat.lt_of_lt_of_le h1 (Nat.le_add_right _ _)) | exact Nat.ne_of_lt (Nat.lt_of_lt_of_le h2 (Nat.le_add_right _ _)) | exact Nat.ne_of_lt h1 | exact Nat.ne_of_lt h2 | (intro e; simp at e) | (intro e; exact absurd e (by omega))
 refine ⟨m+4,[m+4,m+2,m+3,m,m+1],_,_,H1,rfl,I1.kept (t':=s1.toks) hk,bo2 l1 l2 _ _ _ _ _ D,⟨b1,b2,⟨_,_,b3⟩,b4,b5⟩,fp,q⟩
end
def pl2 (k:Bool):Option Int→Option Int→Option Int
 | some x,some y=>some (if k then x+y else x - y)
 | _,_=>none
theorem be7 {K:W.Frag}{a b:Addr}{xs ys:List V}{g:TG}{tb:TS}{D:Ends}{σ:St} {H:Hp}(hz:xs.length=ys.length) (Pv:Nat→St→Hp→Prop) (h0:Pv 0 σ H) (hl:∀ i σ H,i≤xs.length→Pv i σ H→SqL K H a xs∧SqL K H b ys)
 (hs:∀ i x y σ H q H2,xs[i]?=some x→ys[i]?=some y→Pv i σ H→Same H H2→H2 q=some (.tup [x,y])→g (.ref q) σ H2 fun σ1 H1=>tb { D with nx:=Pv (i+1),ct:=Pv (i+1),bk:=D.nx } σ1 H1)
 (hd:∀ σ H,Pv xs.length σ H→D.nx σ H):ForEnd (Itz K a b) g tb D σ H:=by
 refine ⟨fun i m σ H=>m=xs.length - i∧i≤xs.length∧Pv i σ H,⟨xs.length,by simp,Nat.zero_le _,h0⟩,?_⟩
 rintro i m σ' H' ⟨rfl,hi,p⟩
 obtain ⟨hq1,hq2⟩:=hl i σ' H' hi p
 by_cases hlt:i<xs.length
 · have hlt2:i<ys.length:=by omega
   refine .inr ⟨⟨xs,ys,xs[i],ys[i],hq1,hq2,by simp [hlt],by simp [hlt2]⟩,Pv (i+1),fun σ2 H2 p'=>⟨xs.length - (i+1),by omega,rfl,hlt,p'⟩,fun v H2 y=>?_⟩
   obtain ⟨q,x,y,rfl,hn,sm,hT,hx,hy⟩:=y
   exact hs i x y σ' H' q H2 (hx xs hq1) (hy ys hq2) p sm hT
 · have e:i=xs.length:=by omega
   subst e
   exact .inl ⟨⟨xs,ys,hq1,hq2,.inl (Nat.le_refl _)⟩,hd σ' H' p⟩
theorem ch5 {K:W.Frag}{σ:St} {H:Hp}{R:It→Hp→Prop}{ts:TA}(h:ts σ H fun vs H1=>∃ a b,vs=[.ref a,.ref b]∧(∃ xs,SqL K H1 a xs)∧(∃ ys,SqL K H1 b ys)∧R (Itz K a b) H1):iZip K ts σ H R:=h
end L2
namespace L2
open PySem
end L2
namespace L2
open PySem PySem.Spec PyProof.Rows
noncomputable instance trDec:DecidableEq Tr:=fun _ _=>Classical.propDecidable _
def IntIn (z:Int) (u:Value):Prop:=(∃ t,u=.int z t)∨∃ b:Bool,u=.bool b∧z=(if b=true then 1 else 0)
mutual
def Tr.In (h:Heap):Tr→Value→Prop
 | .non,u=>u=.none
 | .int z,u=>IntIn z u
 | .str x,u=>∃ t,u=.str x t
 | .tup ts,u=>∃ a us,u=.ref a∧h.IsTuple a us∧Tr.Ins h ts us.toList
 | .lst _,_=>False
def Tr.Ins (h:Heap):List Tr→List Value→Prop
 | [],us=>us=[]
 | t::ts,us=>∃ u r,us=u::r∧Tr.In h t u∧Tr.Ins h ts r
end
theorem Tr.Ins.len {h:Heap}:∀ {ts:List Tr}{us:List Value},Tr.Ins h ts us→us.length=ts.length
 | [],us,e=>by simp only [Tr.Ins] at e; rw [e]; rfl
 | t::ts,us,e=>by
   simp only [Tr.Ins] at e
   obtain ⟨u,r,rfl,_,e⟩:=e
   simp [e.len]
theorem Tr.Ins.get {h:Heap}:∀ {ts:List Tr}{us:List Value},Tr.Ins h ts us→∀ (j:Nat) (h1:j<us.length) (h2:j<ts.length),Tr.In h ts[j] us[j]
 | [],us,e,j,h1,h2=>absurd h2 (Nat.not_lt_zero _)
 | t::ts,us,e,j,h1,h2=>by
   simp only [Tr.Ins] at e
   obtain ⟨u,r,rfl,e1,e⟩:=e
   cases j with
   | zero=>exact e1
   | succ j=>exact e.get j (by simpa using h1) (by simpa using h2)
theorem ay9 {h:Heap}{a:Addr}{us vs:Array Value}(x:h.IsTuple a us) (y:h.IsTuple a vs):us=vs:=by
 obtain ⟨o,e,_,n,d⟩:=x
 obtain ⟨o',e',_,n',d'⟩:=y
 rw [e] at e'; cases e'
 rw [d] at d'
 injection d' with d1 _
mutual
theorem Tr.In.inj {h:Heap}:∀ {t r:Tr}{u:Value},Tr.In h t u→Tr.In h r u→t=r
 | .non,r,u,e,f=>by
   simp only [Tr.In] at e
   subst e
   cases r <;> simp [Tr.In,IntIn] at f ⊢
 | .int z,r,u,e,f=>by
   simp only [Tr.In] at e
   rcases e with ⟨t,rfl⟩ | ⟨b,rfl,rfl⟩
   · cases r <;> simp [Tr.In,IntIn] at f ⊢
     exact f
   · cases r <;> simp [Tr.In,IntIn] at f ⊢
     exact f.symm
 | .str x,r,u,e,f=>by
   simp only [Tr.In] at e
   obtain ⟨t,rfl⟩:=e
   cases r <;> simp [Tr.In,IntIn] at f ⊢
   exact f
 | .lst _,r,u,e,f=>e.elim
 | .tup ts,.tup rs,u,e,f=>by
   simp only [Tr.In] at e f
   obtain ⟨a,us,rfl,e2,e3⟩:=e
   obtain ⟨b,vs,hb,f2,f3⟩:=f
   cases hb
   cases ay9 e2 f2
   rw [Tr.Ins.inj e3 f3]
 | .tup ts,.non,u,e,f=>by
   simp only [Tr.In] at e f
   obtain ⟨a,us,rfl,e2,e3⟩:=e
   cases f
 | .tup ts,.int _,u,e,f=>by
   simp only [Tr.In] at e f
   obtain ⟨a,us,rfl,e2,e3⟩:=e
   rcases f with ⟨_,f⟩ | ⟨_,f,_⟩ <;> cases f
 | .tup ts,.str _,u,e,f=>by
   simp only [Tr.In] at e f
   obtain ⟨a,us,rfl,e2,e3⟩:=e
   obtain ⟨_,f⟩:=f
   cases f
 | .tup ts,.lst _,u,e,f=>f.elim
theorem Tr.Ins.inj {h:Heap}:∀ {ts rs:List Tr}{us:List Value},Tr.Ins h ts us→Tr.Ins h rs us→ts=rs
 | [],rs,us,e,f=>by
   simp only [Tr.Ins] at e
   subst e
   cases rs with
   | nil=>rfl
   | cons r rs=>simp [Tr.Ins] at f
 | t::ts,rs,us,e,f=>by
   simp only [Tr.Ins] at e
   obtain ⟨u,r,rfl,e1,e2⟩:=e
   cases rs with
   | nil=>simp [Tr.Ins] at f
   | cons q qs =>
     simp only [Tr.Ins] at f
     obtain ⟨u',r',hh,f1,f2⟩:=f
     cases hh
     rw [e1.inj f1,Tr.Ins.inj e2 f2]
end
theorem av5 {H:Hp}{ts:List Tr}{v:V}{h:(Tr.lst ts).At H v []}:False:=by
 simp only [Tr.At] at h
 obtain ⟨a,vs,_,rfl,e1,c1,e⟩:=h
 simp at e
section
variable {X:Cx}{pins:List (Addr×Obj)}{σ:St} {H:Hp}{s:Shared}
mutual
theorem Tr.At.isIn (I:Inv X pins σ H s):∀ {t:Tr}{v:V}{u:Value},t.At H v []→RelV v u→Tr.In s.heap t u
 | .non,v,u,h,r=>by
   obtain ⟨rfl,-⟩:=(by simpa only [Tr.At] using h)
   cases r
   exact rfl
 | .int z,v,u,h,r=>by
   obtain ⟨rfl,-⟩:=(by simpa only [Tr.At] using h)
   obtain ⟨t,rfl⟩:=r
   exact .inl ⟨t,rfl⟩
 | .str z,v,u,h,r=>by
   obtain ⟨rfl,-⟩:=(by simpa only [Tr.At] using h)
   obtain ⟨t,rfl⟩:=r
   exact ⟨t,rfl⟩
 | .lst _,v,u,h,r=>(av5 (h:=h)).elim
 | .tup ts,v,u,h,r=>by
   simp only [Tr.At] at h
   obtain ⟨a,vs,rfl,e1,c1⟩:=h
   cases r
   obtain ⟨is1,q1,p1,_⟩:=I.tuple (SqT.of e1)
   simp only [Tr.In]
   exact ⟨a,is1.toArray,rfl,p1,by simpa using Tr.Ats.isIns I c1 q1⟩
theorem Tr.Ats.isIns (I:Inv X pins σ H s):∀ {ts:List Tr}{vs:List V}{us:List Value},Tr.Ats H ts vs []→Vals vs us→Tr.Ins s.heap ts us
 | [],vs,us,c,q=>by
   simp only [Tr.Ats] at c
   obtain ⟨rfl,-⟩:=c
   cases q
   exact rfl
 | t::ts,vs,us,c,q=>by
   simp only [Tr.Ats] at c
   obtain ⟨v,vs,f,g,rfl,e,a1,b1⟩:=c
   have hf:f=[]∧g=[]:=by simpa using e.symm
   obtain ⟨rfl,rfl⟩:=hf
   cases q with
   | cons r1 q1 =>
   simp only [Tr.Ins]
   exact ⟨_,_,rfl,a1.isIn I r1,b1.isIns I q1⟩
end
end
theorem be8 {n:Nat}{e:Nat→Bool}:(List.range n).all e=true↔∀ j,j<n→e j=true:=by simp [List.all_eq_true]
theorem bu3 {ts rs:List Tr}:((List.range (min ts.length rs.length)).all (fun j=>decide (ts.getD j .non=rs.getD j .non)) && ts.length == rs.length)=decide (ts=rs):=by
 rw [Bool.eq_iff_iff,Bool.and_eq_true,be8,decide_eq_true_iff,beq_iff_eq]
 constructor
 · rintro ⟨h1,h2⟩
   refine List.ext_getElem h2 fun j h3 h4=>?_
   have:=of_decide_eq_true (h1 j (by omega))
   simpa [h3,h4] using this
 · rintro rfl
   exact ⟨fun j _=>decide_eq_true rfl,rfl⟩
section
variable {s:Shared}
mutual
theorem Tr.In.eqAt:∀ {t r:Tr}{A:Around}{u z:Value},Tr.In s.heap t u→Tr.In s.heap r z→A.units+t.h+r.h<cLine→SeqAt.EqAt A s u z (decide (t=r))
 | .non,r,A,u,z,h1,h2,hu=>by
   simp only [Tr.In] at h1
   subst h1
   cases r with
   | non =>
     simp only [Tr.In] at h2
     subst h2
     rw [decide_eq_true rfl]
     exact SeqAt.EqAt.same _
   | int i =>
     rw [decide_eq_false (by simp)]
     rcases h2 with ⟨t2,rfl⟩ | ⟨b2,rfl,rfl⟩
     · exact SeqAt.EqAt.none_int _ _
     · exact SeqAt.EqAt.none_bool _
   | str i =>
     obtain ⟨t2,rfl⟩:=h2
     rw [decide_eq_false (by simp)]
     exact SeqAt.EqAt.none_str _ _
   | tup rs =>
     simp only [Tr.In] at h2
     obtain ⟨a,us,rfl,p,_⟩:=h2
     rw [decide_eq_false (by simp)]
     exact SeqAt.EqAt.none_tuple p (by omega)
   | lst rs=>exact h2.elim
 | .int i,r,A,u,z,h1,h2,hu=>by
   cases r with
   | non =>
     simp only [Tr.In] at h2
     subst h2
     rw [decide_eq_false (by simp)]
     rcases h1 with ⟨t1,rfl⟩ | ⟨b1,rfl,rfl⟩
     · exact SeqAt.EqAt.int_none _ _
     · exact SeqAt.EqAt.bool_none _
   | int j =>
     rw [show decide (Tr.int i=Tr.int j)=(i == j) from Bool.eq_iff_iff.mpr (by simp)]
     rcases h1 with ⟨t1,rfl⟩ | ⟨b1,rfl,rfl⟩
     · rcases h2 with ⟨t2,rfl⟩ | ⟨b2,rfl,rfl⟩
       · exact SeqAt.EqAt.int_int _ _ _ _
       · exact SeqAt.EqAt.int_bool _ _ _
     · rcases h2 with ⟨t2,rfl⟩ | ⟨b2,rfl,rfl⟩
       · exact SeqAt.EqAt.bool_int _ _ _
       · have:=SeqAt.EqAt.bool_bool (A:=A) (s:=s) b1 b2
         cases b1 <;> cases b2 <;> exact this
   | str j =>
     obtain ⟨t2,rfl⟩:=h2
     rw [decide_eq_false (by simp)]
     rcases h1 with ⟨t1,rfl⟩ | ⟨b1,rfl,rfl⟩
     · exact SeqAt.EqAt.int_str _ _ _ _
     · exact SeqAt.EqAt.bool_str _ _ _
   | tup rs =>
     simp only [Tr.In] at h2
     obtain ⟨a,us,rfl,p,_⟩:=h2
     rw [decide_eq_false (by simp)]
     rcases h1 with ⟨t1,rfl⟩ | ⟨b1,rfl,rfl⟩
     · exact SeqAt.EqAt.int_tuple _ _ p (by omega)
     · exact SeqAt.EqAt.bool_tuple _ p (by omega)
   | lst rs=>exact h2.elim
 | .str i,r,A,u,z,h1,h2,hu=>by
   obtain ⟨t1,rfl⟩:=h1
   cases r with
   | non =>
     simp only [Tr.In] at h2
     subst h2
     rw [decide_eq_false (by simp)]
     exact SeqAt.EqAt.str_none _ _
   | int j =>
     rw [decide_eq_false (by simp)]
     rcases h2 with ⟨t2,rfl⟩ | ⟨b2,rfl,rfl⟩
     · exact SeqAt.EqAt.str_int _ _ _ _
     · exact SeqAt.EqAt.str_bool _ _ _
   | str j =>
     obtain ⟨t2,rfl⟩:=h2
     have:=SeqAt.EqAt.str_str (A:=A) (s:=s) i t1 j t2
     rw [show (i == j)=decide (Tr.str i=Tr.str j) from Bool.eq_iff_iff.mpr (by simp)] at this
     exact this
   | tup rs =>
     simp only [Tr.In] at h2
     obtain ⟨a,us,rfl,p,_⟩:=h2
     rw [decide_eq_false (by simp)]
     exact SeqAt.EqAt.str_tuple _ _ p (by omega)
   | lst rs=>exact h2.elim
 | .lst _,r,A,u,z,h1,h2,hu=>h1.elim
 | .tup ts,r,A,u,z,h1,h2,hu=>by
   have h1':=h1
   simp only [Tr.In] at h1
   obtain ⟨a,us,rfl,p1,c1⟩:=h1
   cases r with
   | non =>
     simp only [Tr.In] at h2
     subst h2
     rw [decide_eq_false (by simp)]
     exact SeqAt.EqAt.tuple_none p1 (by omega)
   | int j =>
     rw [decide_eq_false (by simp)]
     rcases h2 with ⟨t2,rfl⟩ | ⟨b2,rfl,rfl⟩
     · exact SeqAt.EqAt.tuple_int _ _ p1 (by omega)
     · exact SeqAt.EqAt.tuple_bool _ p1 (by omega)
   | str j =>
     obtain ⟨t2,rfl⟩:=h2
     rw [decide_eq_false (by simp)]
     exact SeqAt.EqAt.tuple_str _ _ p1 (by omega)
   | lst rs=>exact h2.elim
   | tup rs =>
     have h2':=h2
     simp only [Tr.In] at h2
     obtain ⟨b,vs,rfl,p2,c2⟩:=h2
     by_cases hab:a=b
     · subst hab
       rw [decide_eq_true (h1'.inj h2')]
       exact SeqAt.EqAt.same _
     refine SeqAt.EqAt.of_refs hab ?_
     simp only [Tr.h] at hu
     have l1:=c1.len
     have l2:=c2.len
     simp only [Array.length_toList] at l1 l2
     have:=SeqAt.RcAt.tuples (A:=A) (s:=s) (e:=fun j=>decide (ts.getD j .non=rs.getD j .non)) p1 p2 (by omega) (fun j h1 h2=>by
      have:=Tr.Ins.eqAts (A:=A.in1) c1 c2 (by rw [aa1]; omega) j (by simpa using h1) (by simpa using h2)
      simpa using this)
     rw [l1,l2,bu3] at this
     rw [show decide (Tr.tup ts=Tr.tup rs)=decide (ts=rs) from Bool.eq_iff_iff.mpr (by simp)]
     exact this
theorem Tr.Ins.eqAts:∀ {ts rs:List Tr}{A:Around}{us zs:List Value},Tr.Ins s.heap ts us→Tr.Ins s.heap rs zs→A.units+Tr.hs ts+Tr.hs rs<cLine →
 ∀ (j:Nat) (h1:j<us.length) (h2:j<zs.length),SeqAt.EqAt A s us[j] zs[j] (decide (ts.getD j .non=rs.getD j .non))
 | [],rs,A,us,zs,c1,c2,hu,j,h1,h2=>by
   simp only [Tr.Ins] at c1
   subst c1
   exact absurd h1 (by simp)
 | t::ts,[],A,us,zs,c1,c2,hu,j,h1,h2=>by
   simp only [Tr.Ins] at c2
   subst c2
   exact absurd h2 (by simp)
 | t::ts,r::rs,A,us,zs,c1,c2,hu,j,h1,h2=>by
   simp only [Tr.Ins] at c1 c2
   obtain ⟨u,us,rfl,a1,b1⟩:=c1
   obtain ⟨z,zs,rfl,a2,b2⟩:=c2
   simp only [Tr.hs] at hu
   cases j with
   | zero =>
     have:=a1.eqAt a2 (A:=A) (by omega)
     simpa using this
   | succ j =>
     have:=b1.eqAts b2 (A:=A) (by omega) j (by simpa using h1) (by simpa using h2)
     simpa using this
end
end
mutual
def Tr.hash (P:Params):Tr→Int
 | .non=>W.hashW P .none
 | .int z=>W.hashW P (.int z)
 | .str x=>W.hashW P (.str x)
 | .tup ts=>reduceHash (Builtin.Tuple.tupleHashOf (Tr.hashes P ts))
 | .lst _=>0
def Tr.hashes (P:Params):List Tr→List Int
 | []=>[]
 | t::ts=>Tr.hash P t::Tr.hashes P ts
end
section
variable {prog:Program}{w:World}{E:Value→Shared→Prop}
mutual
theorem Tr.In.pyHash:∀ {t:Tr}{A:Around}{s:Shared}{u:Value}{Q:Int→Shared→Prop},Tr.In s.heap t u→A.units+t.h<cLine→(∀ n,Q (t.hash w.params) { s with toks:=n })→wpAny (model prog w) A (pyHash u) Q E s
 | .non,A,s,u,Q,e,hu,h=>by
   simp only [Tr.In] at e
   subst e
   exact W.pyHash_laid .none _ A s Q rfl .none (by simp only [W.WData.depth]; omega) h
 | .int z,A,s,u,Q,e,hu,h=>by
   rcases e with ⟨t,rfl⟩ | ⟨b,rfl,rfl⟩
   · exact W.pyHash_laid (.int z) _ A s Q rfl (.int z t) (by simp only [W.WData.depth]; omega) h
   · refine W.pyHash_laid (.bool b) _ A s Q rfl (.bool b) (by simp only [W.WData.depth]; omega) fun tk=>?_
     have:=h tk
     cases b <;> exact this
 | .str z,A,s,u,Q,e,hu,h=>by
   obtain ⟨t,rfl⟩:=e
   exact W.pyHash_laid (.str z) _ A s Q rfl (.str z t) (by simp only [W.WData.depth]; omega) h
 | .lst _,A,s,u,Q,e,hu,h=>e.elim
 | .tup ts,A,s,u,Q,e,hu,h=>by
   simp only [Tr.In] at e
   obtain ⟨a,us,rfl,⟨o,p1,p2,n,p3⟩,c⟩:=e
   simp only [Tr.h] at hu
   refine W.pyHash_slot (T:="tuple") ⟨o,p1,p2⟩ F.slot_tuple_hash F.entry_tuple_hash (F.args_tuple_hash_1 _) (beq_builtin_none _) (.inr (by omega)) ?_
   show wpAny _ A.in1 (Builtin.Tuple.tupleItemsOf (.ref a) >>= _) _ _ s
   refine wB (wpAny_tupleItemsOf p1 p3 (wB ?_))
   rw [← Array.forIn_toList]
   refine Tr.Ins.pyHashes (b:=#[]) c (by rw [aa1]; omega) fun tk b hb=>?_
   have hb':b.toList=Tr.hashes w.params ts:=by simpa using hb
   show wpAny _ A.in1 (retInt (Builtin.Tuple.tupleHashOf b.toList)) _ _ _
   rw [hb']
   exact wB (wpAny_mkInt (wpAny_pure ⟨_,_,rfl,h (_)⟩))
theorem Tr.Ins.pyHashes:∀ {ts:List Tr}{A:Around}{s:Shared}{us:List Value}{b:Array Int}{Q:Array Int→Shared→Prop},Tr.Ins s.heap ts us→A.units+Tr.hs ts<cLine →
 (∀ n b',b'.toList=b.toList++Tr.hashes w.params ts→Q b' { s with toks:=n }) →
 wpAny (model prog w) A (forIn us b fun x r=>do let h←pyHash x; pure PUnit.unit; pure (ForInStep.yield (r.push h))) Q E s
 | [],A,s,us,b,Q,e,hu,h=>by
   simp only [Tr.Ins] at e
   subst e
   exact wpAny_pure (h s.toks b (by simp [Tr.hashes]))
 | t::ts,A,s,us,b,Q,e,hu,h=>by
   simp only [Tr.Ins] at e
   obtain ⟨u,us,rfl,a1,b1⟩:=e
   simp only [Tr.hs] at hu
   rw [List.forIn_cons]
   refine wB (wB (a1.pyHash (by omega) fun tk=>wB (wpAny_pure (wpAny_pure ?_))))
   exact b1.pyHashes (s:={ s with toks:=tk }) (by omega) fun n b' hb=>h n b' (by simp [hb,Tr.hashes])
end
end
section
variable {prog:Program}{w:World}{E:Value→Shared→Prop}
mutual
theorem Tr.In.quiet:∀ {t:Tr}{A:Around}{s:Shared}{u:Value}{Q:Bool→Shared→Prop}{n:Nat},Tr.In s.heap t u→t.h≤n→Q true s→wpAny (model prog w) A (eqIsQuiet n u) Q E s
 | .non,A,s,u,Q,n,e,hn,h=>by
   simp only [Tr.In] at e
   subst e
   rw [eqIsQuiet_byValue n (v:=.none) rfl]
   exact wpAny_pure h
 | .int z,A,s,u,Q,n,e,hn,h=>by
   rcases e with ⟨t,rfl⟩ | ⟨b,rfl,rfl⟩
   · rw [eqIsQuiet_byValue n (v:=.int z t) rfl]
     exact wpAny_pure h
   · rw [eqIsQuiet_byValue n (v:=.bool b) rfl]
     exact wpAny_pure h
 | .str z,A,s,u,Q,n,e,hn,h=>by
   obtain ⟨t,rfl⟩:=e
   rw [eqIsQuiet_byValue n (v:=.str z t) rfl]
   exact wpAny_pure h
 | .lst _,A,s,u,Q,n,e,hn,h=>e.elim
 | .tup ts,A,s,u,Q,n,e,hn,h=>by
   simp only [Tr.In] at e
   obtain ⟨a,us,rfl,⟨o,p1,p2,m,p3⟩,c⟩:=e
   simp only [Tr.h] at hn
   obtain ⟨n,rfl⟩:∃ k,n=k+1:=⟨n - 1,by omega⟩
   have hT:s.TypeIs (.ref a) "tuple":=⟨o,p1,p2⟩
   unfold eqIsQuiet
   refine wB (wpAny_specialOf hT (F.slot_tuple_eq.lookup) ?_)
   show wpAny _ A (isInstance (.ref a) (.type "tuple") >>= _) _ _ s
   refine wB (wpAny_isInstance hT (isSubtype_tuple_tuple) ?_)
   simp only [Bool.false_eq_true,Bool.not_true,if_false]
   refine wB (wpAny_seqItems p1 p3 (wB ?_))
   show wpAny _ _ (forIn us _ _) _ _ s
   rw [← Array.forIn_toList]
   refine wpAny_forIn_list _ (fun rest r s'=>r.1=none∧s'=s∧∃ ts',Tr.Ins s.heap ts' rest∧∀ t∈ts',∃ k,∃ hk:k<ts.length,t=ts[k]) _ ?_ ?_ _ _ ⟨rfl,rfl,ts,c,fun t ht=>by
    obtain ⟨k,hk,e⟩:=List.mem_iff_getElem.mp ht
    exact ⟨k,hk,e.symm⟩⟩
   · rintro v rest r s' ⟨hr,rfl,ts',c',hm⟩
     cases ts' with
     | nil=>simp [Tr.Ins] at c'
     | cons t ts' =>
       simp only [Tr.Ins] at c'
       obtain ⟨u',r',hh,a1,b1⟩:=c'
       cases hh
       obtain ⟨k,hk,rfl⟩:=hm t List.mem_cons_self
       refine wB (Tr.Ins.quietAt (n:=n) c k hk a1 (by omega) ?_)
       simp only [Bool.false_eq_true,Bool.not_true,if_false]
       exact wpAny_pure ⟨rfl,rfl,ts',b1,fun t' ht'=>hm t' (List.mem_cons_of_mem _ ht')⟩
   · rintro ⟨r1,r2⟩ s' ⟨hr,rfl,_⟩
     simp only at hr
     subst hr
     exact wpAny_pure h
theorem Tr.Ins.quietAt:∀ {ts:List Tr}{A:Around}{s:Shared}{us:List Value}{u:Value}{Q:Bool→Shared→Prop}{n:Nat},Tr.Ins s.heap ts us→∀ (k:Nat) (hk:k<ts.length),Tr.In s.heap ts[k] u→Tr.hs ts≤n→Q true s →
 wpAny (model prog w) A (eqIsQuiet n u) Q E s
 | [],A,s,us,u,Q,n,e,k,hk,a1,hn,h=>absurd hk (Nat.not_lt_zero _)
 | t::ts,A,s,us,u,Q,n,e,k,hk,a1,hn,h=>by
   simp only [Tr.Ins] at e
   obtain ⟨u',us,rfl,a2,b2⟩:=e
   simp only [Tr.hs] at hn
   cases k with
   | zero=>exact Tr.In.quiet (t:=t) a1 (by omega) h
   | succ k=>exact Tr.Ins.quietAt b2 k (by simpa using hk) a1 (by omega) h
end
end
structure Ents (P:Params) (h:Heap) (es:Array DictEntry) (ts:List Tr):Prop where
 len:es.size=ts.length
 at_:∀ (j:Nat) (e:DictEntry),es[j]?=some e→∃ t:Tr,ts[j]?=some t∧e.hash=t.hash P∧Tr.In h t e.key∧t.h≤8
 nd:ts.Nodup
theorem Ents.of {P:Params}{h:Heap}{es:Array DictEntry}{ts:List Tr}(x:Ents P h es ts) {j:Nat}{t:Tr}(e:ts[j]?=some t):∃ en,es[j]?=some en∧en.hash=t.hash P∧Tr.In h t en.key∧t.h≤8:=by
 have hj:j<es.size:=by rw [x.len]; exact (gS e).1
 obtain ⟨t',e',h2⟩:=x.at_ j es[j] (Array.getElem?_eq_getElem hj)
 rw [e] at e'
 cases e'
 exact ⟨_,Array.getElem?_eq_getElem hj,h2⟩
theorem Ents.one {P:Params}{h:Heap}{es:Array DictEntry}{ts:List Tr}(x:Ents P h es ts) {i j:Nat}{t:Tr}(e:ts[i]?=some t) (f:ts[j]?=some t):i=j:=by
 obtain ⟨h1,e⟩:=gS e
 obtain ⟨h2,f⟩:=gS f
 have pw:=List.pairwise_iff_getElem.mp x.nd
 rcases Nat.lt_trichotomy i j with h | h | h
 · exact absurd (e.trans f.symm) (pw i j h1 h2 h)
 · exact h
 · exact absurd (f.trans e.symm) (pw j i h2 h1 h)
section
variable {prog:Program}{w:World}{E:Value→Shared→Prop}{A:Around}{s:Shared}{d:Addr}{o:Obj}{es:Array DictEntry}{ep:Nat}{ts:List Tr}{t:Tr}{u:Value}
theorem mem_places {f:Nat→Option Int}{n i:Nat}{h:Int}:i∈placesWithHash n f h↔i<n∧f i=some h:=by simp [placesWithHash,List.mem_filter]
theorem be9 {f:Nat→Option Int}{n:Nat}{h:Int}:(placesWithHash n f h).Nodup:=List.Pairwise.filter _ List.nodup_range
theorem az0 {Q:Option Nat→Shared→Prop}(ho:s.heap.get? d=some o) (hd:o.data=.dict es ep) (x:Ents w.params s.heap es ts) (hk:Tr.In s.heap t u) (h8:t.h≤8) (hu:A.units+16<cLine)
 (hnone:(∀ j:Nat,ts[j]?≠some t)→Q none s) (hsome:∀ j:Nat,ts[j]?=some t→Q (some j) s):wpAny (model prog w) A (dictFind d u (t.hash w.params)) Q E s:=by
 have hin:∀ j:Nat,ts[j]?=some t→j∈placesWithHash es.size (fun i=>es[i]?.map (·.hash)) (t.hash w.params):=fun j hj=>by
  obtain ⟨en,e1,e2,_⟩:=x.of hj
  exact mem_places.mpr ⟨(Array.getElem?_eq_some_iff.mp e1).1,by rw [e1]; exact congrArg some e2⟩
 have hex:∀ i∈placesWithHash es.size (fun i=>es[i]?.map (·.hash)) (t.hash w.params),∃ en t',es[i]?=some en∧ts[i]?=some t'∧en.hash=t.hash w.params∧Tr.In s.heap t' en.key∧t'.h≤8:=fun i hi=>by
  obtain ⟨hi,h2⟩:=mem_places.mp hi
  have e1:=Array.getElem?_eq_getElem hi
  obtain ⟨t',e2,e3,e4,e5⟩:=x.at_ i _ e1
  rw [e1] at h2
  exact ⟨_,t',e1,e2,Option.some.inj h2,e4,e5⟩
 have hnd:(placesWithHash es.size (fun i=>es[i]?.map (·.hash)) (t.hash w.params)).Nodup:=be9
 generalize hP:placesWithHash es.size (fun i=>es[i]?.map (·.hash)) (t.hash w.params)=ps at hin hex hnd
 have eqa:∀ {t':Tr}{z:Value},Tr.In s.heap t' z→t'.h≤8→SeqAt.EqAt A s z u (decide (t'=t)):=fun a b=>a.eqAt hk (by omega)
 have plain:wpAny (model prog w) A (dictWalkPlain d u (t.hash w.params) es ps) Q E s:=by
  unfold dictWalkPlain
  refine wB ?_
  refine wpAny_forIn_list _ (fun rest b s'=>s'=s∧b=(none,())∧(∀ i∈rest,i∈ps)∧∀ j:Nat,ts[j]?=some t→j∈rest) _ ?_ ?_ _ _ ⟨rfl,rfl,fun _ z=>z,hin⟩
  · rintro i rest b s' ⟨rfl,rfl,hr,hj⟩
    obtain ⟨en,t',e1,e2,e3,e4,e5⟩:=hex i (hr i List.mem_cons_self)
    rw [e1]
    dsimp only
    rw [if_pos (by rw [e3]; exact beq_self_eq_true _)]
    refine wB (wpAny_dictEpoch ho hd (wB (eqa e4 e5 _ _ _ _ (wB (wpAny_dictEpoch ho hd ?_)))))
    show wpAny _ A (if (ep != ep)=true then _ else _) _ E _
    rw [if_neg (by simp)]
    by_cases hkk:t'=t
    · subst hkk
      rw [decide_eq_true rfl]
      exact wB (wpAny_rule (wpAny_pure (wpAny_pure (hsome i e2))))
    · rw [decide_eq_false hkk]
      refine wB (wpAny_rule (wpAny_pure ⟨rfl,rfl,fun i hi=>hr i (List.mem_cons_of_mem _ hi),fun j h2=>?_⟩))
      rcases List.mem_cons.mp (hj j h2) with rfl | h3
      · rw [e2] at h2
        exact absurd (Option.some.inj h2) hkk
      · exact h3
  · rintro b s' ⟨rfl,rfl,_,hj⟩
    exact wpAny_pure (hnone fun j h2=>absurd (hj j h2) (by simp))
 have hany:∀ a,u=.ref a→¬ (es.any fun e=>e.key == u && e.hash != t.hash w.params)=true:=by
  rintro a rfl
  rw [← Array.any_toList,List.any_eq_true]
  rintro ⟨e,hin',hc⟩
  obtain ⟨j,hj,rfl⟩:=Array.mem_iff_getElem.mp (Array.mem_toList_iff.mp hin')
  obtain ⟨t',_,f2,f3,_⟩:=x.at_ j _ (Array.getElem?_eq_getElem hj)
  simp only [Bool.and_eq_true,beq_iff_eq,bne_iff_ne,ne_eq] at hc
  rw [hc.1] at f3
  exact hc.2 (by rw [f2,f3.inj hk])
 have hst:∀ v∈ps.filterMap (fun i=>es[i]?.map (·.key)),∃ t',Tr.In s.heap t' v∧t'.h≤8:=by
  intro v hv
  obtain ⟨i,hi,hv⟩:=List.mem_filterMap.mp hv
  obtain ⟨en,t',e1,_,_,e4,e5⟩:=hex i hi
  rw [e1] at hv
  cases hv
  exact ⟨t',e4,e5⟩
 have tell:∀ {Q:Bool→Shared→Prop},Q false s→wpAny (model prog w) A (tableMayTell u (ps.filterMap fun i=>es[i]?.map (·.key))) Q E s:=by
  intro Q q
  unfold tableMayTell
  split
  · exact wpAny_pure q
  · refine wB (hk.quiet h8 ?_)
    simp only [Bool.false_eq_true,Bool.not_true,if_false]
    refine wB (wpAny_forIn_list _ (fun rest r s'=>s'=s∧r=(none,())∧∀ v∈rest,∃ t',Tr.In s.heap t' v∧t'.h≤8) _ ?_ ?_ _ _ ⟨rfl,rfl,hst⟩)
    · rintro v rest r s' ⟨rfl,rfl,hr⟩
      obtain ⟨t',b1,b2⟩:=hr v List.mem_cons_self
      refine wB (b1.quiet b2 ?_)
      simp only [Bool.false_eq_true,Bool.not_true,if_false]
      exact wpAny_pure ⟨rfl,rfl,fun z hz=>hr z (List.mem_cons_of_mem _ hz)⟩
    · rintro r s' ⟨rfl,rfl,_⟩
      exact wpAny_pure q
 unfold dictFind
 try (with_reducible refine wpAny_holding ?_)
 refine wB (wpAny_dictEntries ho (hd) ?_)
 extract_lets places st hit0 jp3 jp2 jp1
 have hpl:places=ps:=hP
 have hS:ps.filterMap (fun i=>es[i]?.map (·.key))=st:=by rw [← hpl]
 rw [hS] at tell
 clear hst
 have h3:wpAny (model prog w) A (jp3 false) Q E s:=by
  dsimp only [jp3]
  rw [if_neg (by simp),hpl]
  refine wB (wpAny_forIn_list _ (fun rest b s'=>s'=s∧rest.Nodup∧∃ hit:Option Nat,b=(none,hit)∧(∀ i∈rest,i∈ps) ∧
   ((hit=none∧∀ j:Nat,ts[j]?=some t→j∈rest)∨∃ j:Nat,hit=some j∧ts[j]?=some t∧j∉rest)) _ ?_ ?_ _ _ ⟨rfl,hnd,none,rfl,fun _ z=>z,.inl ⟨rfl,hin⟩⟩)
  · rintro i rest b s' ⟨rfl,hnd',hit,rfl,hr,hH⟩
    have hni:i∉rest:=(List.nodup_cons.mp hnd').1
    have hnr:rest.Nodup:=(List.nodup_cons.mp hnd').2
    have hr':∀ j∈rest,j∈ps:=fun j hj=>hr j (List.mem_cons_of_mem _ hj)
    obtain ⟨en,t',e1,e2,e3,e4,e5⟩:=hex i (hr i List.mem_cons_self)
    rw [e1]
    dsimp only
    rw [if_pos (by rw [e3]; exact beq_self_eq_true _)]
    refine wB (wpAny_dictEpoch ho hd (wB (eqa e4 e5 _ _ _ _ (wB (wpAny_dictEpoch ho hd ?_)))))
    show wpAny _ A (if (ep != ep)=true then _ else _) _ E _
    rw [if_neg (by simp)]
    by_cases hkk:t'=t
    · subst hkk
      rw [decide_eq_true rfl]
      rcases hH with ⟨rfl,hj⟩ | ⟨j,rfl,hj,hjr⟩
      · rw [if_pos rfl]
        simp only [Bool.false_eq_true,Option.isSome_none,if_false]
        refine wB ((wpAny_rule) ?_)
        split
        · exact wpAny_pure (wpAny_pure (hsome i e2))
        · exact wpAny_pure ⟨rfl,hnr,some i,rfl,hr',.inr ⟨i,rfl,e2,hni⟩⟩
      · exact absurd (x.one e2 hj ▸ List.mem_cons_self) hjr
    · rw [decide_eq_false hkk]
      rw [if_neg (by simp)]
      refine wB ((wpAny_rule) ?_)
      rw [if_neg (by simp)]
      refine wpAny_pure ⟨rfl,hnr,hit,rfl,hr',?_⟩
      rcases hH with ⟨rfl,hj⟩ | ⟨j,rfl,hj,hjr⟩
      · refine .inl ⟨rfl,fun j h2=>?_⟩
        rcases List.mem_cons.mp (hj j h2) with rfl | h3
        · rw [e2] at h2
          exact absurd (Option.some.inj h2) hkk
        · exact h3
      · exact .inr ⟨j,rfl,hj,fun z=>hjr (List.mem_cons_of_mem _ z)⟩
  · rintro b s' ⟨rfl,_,hit,rfl,_,hH⟩
    rcases hH with ⟨rfl,hj⟩ | ⟨j,rfl,hj,_⟩
    · exact wpAny_pure (hnone fun j h2=>absurd (hj j h2) (by simp))
    · exact wpAny_pure (hsome j hj)
 clear_value jp3
 have h2:wpAny (model prog w) A (jp2 ()) Q E s:=by
  dsimp only [jp2]
  by_cases hone:(st == [u])=true
  · rw [if_pos hone]
    exact wB (wpAny_pure h3)
  · rw [if_neg hone]
    exact wB (tell h3)
 clear_value jp2
 have h1:wpAny (model prog w) A (jp1 ()) Q E s:=by
  dsimp only [jp1]
  by_cases hall:(u::st).all carriedByValue=true
  · rw [if_pos hall,hpl]
    exact plain
  rw [if_neg hall]
  split
  · rename_i a
    rw [if_neg (hany a rfl)]
    exact h2
  · exact h2
 clear_value jp1
 split
 · rename_i y tk
   by_cases hx:(es.all fun e=>isExactStrKey e.key)=true
   · rw [if_pos hx]
     have ht:t=.str y:=hk.inj (r:=.str y) ⟨tk,rfl⟩
     subst ht
     have hstr:∀ (j:Nat) (hj:j<es.size),es[j].key.isStr y=decide (ts[j]?=some (.str y)):=fun j hj=>by
      obtain ⟨t',f1,f2,f3,_⟩:=x.at_ j _ (Array.getElem?_eq_getElem hj)
      have hx':=Array.all_eq_true.mp hx j hj
      rw [f1]
      cases hq:es[j].key with
      | str z tz =>
        rw [hq] at f3
        obtain rfl:t'=.str z:=f3.inj (r:=.str z) ⟨tz,rfl⟩
        show (z == y)=_
        exact Bool.eq_iff_iff.mpr (by simp)
      | _=>rw [hq] at hx'; cases hx'
     unfold foundByValue
     cases hf:es.findIdx? (fun e=>e.key.isStr y) with
     | none =>
       refine wpAny_pure (hnone fun j hj=>?_)
       obtain ⟨en,g1,_⟩:=x.of hj
       obtain ⟨hl,_⟩:=Array.getElem?_eq_some_iff.mp g1
       have:=Array.findIdx?_eq_none_iff.mp hf es[j] (Array.getElem_mem hl)
       rw [hstr j hl,decide_eq_true hj] at this
       cases this
     | some i =>
       obtain ⟨hlt,hi,_⟩:=Array.findIdx?_eq_some_iff_getElem.mp hf
       rw [hstr i hlt] at hi
       have hi:=of_decide_eq_true hi
       obtain ⟨t',f1,f2,f3,f4⟩:=x.at_ i _ (Array.getElem?_eq_getElem hlt)
       rw [hi] at f1
       cases f1
       simp only [Array.getElem?_eq_getElem hlt]
       refine wB (wpAny_dictEpoch ho hd (wB (eqa f3 f4 _ _ _ _ (wB (wpAny_dictEpoch ho hd ?_)))))
       show wpAny _ A (if (ep != ep)=true then _ else _) _ E _
       rw [if_neg (by simp),decide_eq_true rfl]
       exact wB (wpAny_rule (wpAny_pure (hsome i hi)))
   · rw [if_neg hx]
     exact h1
 · exact h1
end
structure DtR (P:Params) (m:List (Tr×V×V)) (es:Array DictEntry):Prop where
 len:es.size=m.length
 at_:∀ (j:Nat) (x:Tr×V×V),m[j]?=some x→∃ e,es[j]?=some e∧e.hash=x.1.hash P∧RelV x.2.1 e.key∧RelV x.2.2 e.val
def DtP (P:Params) (a:Addr) (m:List (Tr×V×V)):Heap→Prop:=fun h=>m.length≤sizeLine∧(a == sysModules)=false∧∃ o es ep,h.get? a=some o∧o.ExactDict∧o.data=.dict es ep∧DtR P m es
abbrev DtO (P:Params) (a:Addr) (m:List (Tr×V×V)):HO:=.ext (DtP P a m)
theorem DtP.one {P:Params}{a:Addr}{m:List (Tr×V×V)}(h1 h2:Heap) (x:DtP P a m h1) (k:∀ o,h1.get? a=some o→h2.get? a=some o):DtP P a m h2:=by
 obtain ⟨z,y,o,es,ep,e,r⟩:=x
 exact ⟨z,y,o,es,ep,k _ e,r⟩
theorem aq1 {Pr:Program}{w:World}{H:Hp}{h:Heap}{P:Params}{a:Addr}{m:List (Tr×V×V)}(x:DtP P a m h):ObjOk Pr w H h a (DtO P a m):=by
 refine ⟨x,?_,DtP.one⟩
 obtain ⟨_,_,o,_,_,e,_⟩:=x
 exact ⟨o,e⟩
def DtE (P:Params) (H:Hp) (a:Addr) (m:List (Tr×V×V)):Prop:=∃ φ,H a=some (.ext φ)∧∀ h,φ h→DtP P a m h
theorem DtE.of {P:Params}{H:Hp}{a:Addr}{m:List (Tr×V×V)}(h:H a=some (DtO P a m)):DtE P H a m:=⟨_,h,fun _ x=>x⟩
theorem DtE.mut {P:Params}{H:Hp}{a:Addr}{m:List (Tr×V×V)}(h:DtE P H a m):Mut (H a):=by
 obtain ⟨φ,e,_⟩:=h
 rw [e]
 exact True.intro
def DtAt (P:Params) (H:Hp) (a:Addr) (kvs:List (Tr×V)):Prop:=∃ m:List (Tr×V×V),m.map (fun x=>(x.1,x.2.2))=kvs∧DtE P H a m∧(∀ x∈m,x.1.At H x.2.1 []∧x.1.h≤8)∧(m.map (·.1)).Nodup
noncomputable def putM (m:List (Tr×V×V)) (t:Tr) (y v:V):List (Tr×V×V):=if t∈m.map (·.1) then m.map (fun x=>if x.1=t then (x.1,x.2.1,v) else x) else m++[(t,y,v)]
theorem bo3 (m:List (Tr×V×V)) (t:Tr) (y v:V):(putM m t y v).map (fun x=>(x.1,x.2.2))=putK (m.map fun x=>(x.1,x.2.2)) t v:=by
 have hany:((m.map fun x=>(x.1,x.2.2)).any fun kv=>decide (kv.1=t))=decide (t∈m.map (·.1)):=by
  rw [Bool.eq_iff_iff,List.any_eq_true,decide_eq_true_iff,List.mem_map]
  constructor
  · rintro ⟨p,hp,e⟩
    obtain ⟨x,hx,rfl⟩:=List.mem_map.mp hp
    exact ⟨x,hx,of_decide_eq_true e⟩
  · rintro ⟨x,hx,e⟩
    exact ⟨_,List.mem_map_of_mem hx,decide_eq_true e⟩
 unfold putM putK
 rw [hany]
 by_cases h:t∈m.map (·.1)
 · rw [if_pos h,if_pos (decide_eq_true h),List.map_map,List.map_map]
   refine List.map_congr_left fun x _=>?_
   simp only [Function.comp]
   split <;> rfl
 · rw [if_neg h,if_neg (by rw [decide_eq_false h]; exact Bool.false_ne_true),List.map_append]
   rfl
theorem bx9 {m:List (Tr×V×V)}(t:Tr) (y v:V) (h:(m.map (·.1)).Nodup):((putM m t y v).map (·.1)).Nodup:=by
 unfold putM
 by_cases ht:t∈m.map (·.1)
 · rw [if_pos ht,List.map_map]
   rw [show m.map ((·.1)∘fun x=>if x.1=t then (x.1,x.2.1,v) else x)=m.map (·.1) from List.map_congr_left fun x _=>by simp only [Function.comp]; split <;> rfl]
   exact h
 · rw [if_neg ht,List.map_append]
   exact ay5 h ht
theorem bo4 {m:List (Tr×V×V)}{t:Tr}{y v:V}{p:Tr→V→Prop}(h:∀ x∈m,p x.1 x.2.1) (hy:p t y):∀ x∈putM m t y v,p x.1 x.2.1:=by
 intro x hx
 unfold putM at hx
 by_cases ht:t∈m.map (·.1)
 · rw [if_pos ht] at hx
   obtain ⟨z,hz,rfl⟩:=List.mem_map.mp hx
   split <;> exact h z hz
 · rw [if_neg ht] at hx
   rcases gA hx with hx | hx
   · exact h x hx
   · rw [gG hx]; exact hy
theorem bo5 (m:List (Tr×V×V)) (t:Tr) (y v:V):(putM m t y v).length≤m.length+1:=by
 unfold putM
 split <;> simp
theorem a64 {P:Params}{H H':Hp}{a:Addr}{kvs:List (Tr×V)}(x:DtAt P H a kvs) (s:Same H H'):DtAt P H' a kvs:=by
 obtain ⟨m,e1,⟨φ,e2,hφ⟩,e3,e4⟩:=x
 exact ⟨m,e1,⟨φ,s _ _ e2,hφ⟩,fun x hx=>⟨(e3 x hx).1.mono (s.keep _),(e3 x hx).2⟩,e4⟩
def TK (H:Hp) (t:Tr) (y:V):Prop:=t.At H y []∧t.h≤8
theorem as1 {m:List (Tr×V×V)}(hn:(m.map (·.1)).Nodup) {j:Nat}{x:Tr×V×V}(e:m[j]?=some x):valV (m.map fun x=>(x.1,x.2.2)) x.1=some x.2.2:=by
 induction m generalizing j with
 | nil=>simp at e
 | cons z m ih =>
   rw [List.map_cons,List.nodup_cons] at hn
   cases j with
   | zero =>
     obtain rfl:z=x:=by simpa using e
     exact aa4 rfl
   | succ j =>
     have e':m[j]?=some x:=by simpa using e
     rw [List.map_cons,aa5 (fun q=>hn.1 (by
      show z.1∈_
      rw [show z.1=x.1 from q]
      exact List.mem_map_of_mem (gI e')))]
     exact ih hn.2 e'
theorem am6 {m:List (Tr×V×V)}{t:Tr}(h:∀ j:Nat,(m.map (·.1))[j]?≠some t):valV (m.map fun x=>(x.1,x.2.2)) t=none∧t∉m.map (·.1):=by
 have hn:t∉m.map (·.1):=fun z=>by
  obtain ⟨j,hj,e⟩:=List.mem_iff_getElem.mp z
  exact h j (by rw [gE hj,e])
 refine ⟨?_,hn⟩
 unfold valV
 rw [List.find?_eq_none.mpr]
 · rfl
 · intro p hp
   obtain ⟨x,hx,rfl⟩:=List.mem_map.mp hp
   simp only [decide_eq_true_iff]
   exact fun z=>hn (z ▸ List.mem_map_of_mem hx)
section
variable {X:Cx}{pins:List (Addr×Obj)}{σ:St} {H:Hp}{s:Shared}{a:Addr}{t:Tr}{y v:V}{u r:Value}{A:Around}{E:Value→Shared→Prop}{kvs:List (Tr×V)}{m:List (Tr×V×V)}
theorem ah0 (I:Inv X pins σ H s) (e2:DtE X.w.params H a m) (e3:∀ x∈m,x.1.At H x.2.1 []∧x.1.h≤8) (e4:(m.map (·.1)).Nodup) :
 ∃ o es ep,s.heap.get? a=some o∧o.ExactDict∧o.data=.dict es ep∧DtR X.w.params m es∧Ents X.w.params s.heap es (m.map (·.1))∧m.length≤sizeLine∧(a == sysModules)=false:=by
 obtain ⟨φ,e2,hφ⟩:=e2
 obtain ⟨z1,z2,o,es,ep,q1,q2,q3,q4⟩:=hφ _ (I.hok a _ e2).1
 refine ⟨o,es,ep,q1,q2,q3,q4,⟨by rw [q4.len,gL],fun j e he=>?_,e4⟩,z1,z2⟩
 have hj:j<m.length:=by rw [← q4.len]; exact (Array.getElem?_eq_some_iff.mp he).1
 obtain ⟨e',f1,f2,f3,f4⟩:=q4.at_ j m[j] (gE hj)
 rw [he] at f1
 cases f1
 have:=e3 m[j] (List.getElem_mem hj)
 exact ⟨m[j].1,by rw [gM,gE hj]; rfl,f2,this.1.isIn I f3,this.2⟩
theorem bf0 {Q:Option Value→Shared→Prop}(hu:A.units+16<cLine) (I:Inv X pins σ H s) (g:DtAt X.w.params H a kvs) (hk:TK H t y) (ry:RelV y u) (h:∀ o s',Inv X pins σ H s'→RelO (valV kvs t) o→Q o s') :
 wpAny (model X.prog X.w) A (dictGet a u) Q E s:=by
 obtain ⟨m,rfl,e2,e3,e4⟩:=g
 obtain ⟨o,es,ep,q1,q2,q3,q4,q5,_⟩:=ah0 I e2 e3 e4
 have hin:=hk.1.isIn I ry
 unfold dictGet
 try (with_reducible refine wpAny_holding ?_)
 refine wB (hin.pyHash (by have:=hk.2; omega) fun n=>wB (az0 (s:={ s with toks:=n }) q1 q3 q5 hin hk.2 hu (fun hn=>?_) fun j hj=>?_))
 · refine wpAny_pure (h _ _ (I.tok _) ?_)
   rw [(am6 hn).1]
   exact True.intro
 · rw [gM] at hj
   obtain ⟨x,hx,rfl⟩:=gO hj
   obtain ⟨en,f1,f2,f3,f4⟩:=q4.at_ j x hx
   refine wB (wpAny_dictEntries (s:={ s with toks:=n }) q1 q3 ?_)
   rw [f1]
   refine wpAny_pure (h _ _ (I.tok _) ?_)
   rw [as1 e4 hx]
   exact f4
theorem b51 {P:Params}{es:Array DictEntry}{e:DictEntry}(x:DtR P m es) (h1:e.hash=t.hash P) (h2:RelV y e.key) (h3:RelV v e.val):DtR P (m++[(t,y,v)]) (es.push e):=by
 refine ⟨by simp [x.len],fun j z hz=>?_⟩
 by_cases hj:j<m.length
 · rw [List.getElem?_append_left hj] at hz
   obtain ⟨e',f1,f2⟩:=x.at_ j z hz
   exact ⟨e',by rw [Array.getElem?_push,if_neg (by rw [x.len]; omega)]; exact f1,f2⟩
 · rw [List.getElem?_append_right (by omega)] at hz
   have hj2:j - m.length=0:=by
    refine Nat.eq_zero_of_not_pos fun z=>?_
    rw [List.getElem?_eq_none (by simp; omega)] at hz
    cases hz
   rw [hj2] at hz
   cases hz
   exact ⟨e,by rw [Array.getElem?_push,if_pos (by rw [x.len]; omega)],h1,h2,h3⟩
theorem by0 {P:Params}{es:Array DictEntry}{j:Nat}{x:Tr×V×V}(R:DtR P m es) (hn:(m.map (·.1)).Nodup) (hx:m[j]?=some x) (h3:RelV v r) :
 DtR P (m.map fun z=>if z.1=x.1 then (z.1,z.2.1,v) else z) (es.modify j fun e=>{ e with val:=r }):=by
 refine ⟨by simp [R.len],fun i z hz=>?_⟩
 rw [gM] at hz
 obtain ⟨z0,hz0,rfl⟩:=gO hz
 obtain ⟨e',f1,f2,f3,f4⟩:=R.at_ i z0 hz0
 have hi:i<es.size:=(Array.getElem?_eq_some_iff.mp f1).1
 rw [Array.getElem?_modify,f1]
 by_cases hij:j=i
 · subst hij
   rw [hz0] at hx
   cases hx
   rw [if_pos rfl,if_pos rfl]
   exact ⟨_,rfl,f2,f3,h3⟩
 · rw [if_neg hij,if_neg]
   · exact ⟨_,rfl,f2,f3,f4⟩
   · intro e
     have pw:=List.pairwise_iff_getElem.mp hn
     obtain ⟨l1,g1⟩:=gS hx
     obtain ⟨l2,g2⟩:=gS hz0
     rcases Nat.lt_trichotomy j i with h | h | h
     · exact pw j i (by simpa using l1) (by simpa using l2) h (by simp [g1,g2,e])
     · exact hij h
     · exact pw i j (by simpa using l2) (by simpa using l1) h (by simp [g1,g2,e])
theorem bf1 {Q:Unit→Shared→Prop}(hu:A.units+16<cLine) (I:Inv X pins σ H s) (e2:DtE X.w.params H a m) (e3:∀ x∈m,x.1.At H x.2.1 []∧x.1.h≤8) (e4:(m.map (·.1)).Nodup) (hz:m.length<sizeLine)
 (hk:TK H t y) (ry:RelV y u) (rv:RelV v r) (h:∀ s',Inv X pins σ (upd H a (DtO X.w.params a (putM m t y v))) s'→Q () s') :
 wpAny (model X.prog X.w) A (dictSet a u r) Q E s:=by
 obtain ⟨o,es,ep,q1,q2,q3,q4,q5,z1,z2⟩:=ah0 I e2 e3 e4
 have hin:=hk.1.isIn I ry
 have hl:(putM m t y v).length≤sizeLine:=by have:=bo5 m t y v; omega
 unfold dictSet
 try (with_reducible refine wpAny_holding ?_)
 refine wB (hin.pyHash (by have:=hk.2; omega) fun n=>?_)
 unfold dictSetHashed
 try (with_reducible refine wpAny_holding ?_)
 refine wB (az0 (s:={ s with toks:=n }) q1 q3 q5 hin hk.2 hu (fun hn=>?_) fun j hj=>?_)
 · refine wB (wpAny_rule (wpAny_updateDictKeys (s:={ s with toks:=n }) q1 q3 (h _ (ak3 (I.tok n) e2.mut (Heap.SameBut.update ..) ?_ (aq1 ⟨hl,z2,_,_,ep+1,Heap.get?_update_self _ q1 (Obj.isFreed_of_dict (Obj.data_mapDictKeys q3 _)),q2.mapDictKeys _,Obj.data_mapDictKeys q3 _,?_⟩))) (by rw [q4.len]; omega)))
   · exact ⟨_,Heap.get?_update_self _ q1 (Obj.isFreed_of_dict (Obj.data_mapDictKeys q3 _))⟩
   · unfold putM
     rw [if_neg (am6 hn).2]
     exact b51 q4 rfl ry rv
 · rw [gM] at hj
   obtain ⟨x,hx,rfl⟩:=gO hj
   refine wB (wpAny_rule (wB (wpAny_updateDict (s:={ s with toks:=n }) q1 q3 (wpAny_point (h _ (ak3 (I.tok n) e2.mut (Heap.SameBut.update ..) ?_ (aq1 ⟨hl,z2,_,_,ep,Heap.get?_update_self _ q1 (Obj.isFreed_of_dict (Obj.data_mapDict q3 _)),q2.mapDict _,Obj.data_mapDict q3 _,?_⟩)))))))
   · exact ⟨_,Heap.get?_update_self _ q1 (Obj.isFreed_of_dict (Obj.data_mapDict q3 _))⟩
   · unfold putM
     rw [if_pos (List.mem_map_of_mem (gI hx))]
     exact by0 q4 e4 hx rv
end
def RawD (h:Heap) (d:Addr) (es:Array DictEntry) (ep:Nat):Prop:=∃ o,h.get? d=some o∧o.ExactDict∧o.data=.dict es ep
theorem RawD.ty {s:Shared}{d:Addr}{es:Array DictEntry}{ep:Nat}(x:RawD s.heap d es ep):s.TypeIs (.ref d) "dict":=let ⟨o,e,c,_⟩:=x; ⟨o,e,c.1⟩
theorem RawD.keep {h h':Heap}{d:Addr}{es:Array DictEntry}{ep:Nat}(x:RawD h d es ep) (k:∀ o,h.get? d=some o→h'.get? d=some o):RawD h' d es ep:=let ⟨o,e,r⟩:=x; ⟨o,k o e,r⟩
theorem RawD.lt {h:Heap}{d:Addr}{es:Array DictEntry}{ep:Nat}(x:RawD h d es ep):d<h.objs.size:=let ⟨_,e,_⟩:=x; Heap.lt_size e
section
variable {prog:Program}{w:World}{A:Around}{E:Value→Shared→Prop}{s:Shared}{d it:Addr}{es:Array DictEntry}{ep i:Nat}
theorem b52 {Q:Value→Shared→Prop}(lo:(d == sysModules)=false) (x:RawD s.heap d es ep)
 (q:Q (.ref s.heap.objs.size) { s with heap:=s.heap.push { cls:=.type "dict_keyiterator",data:=.fields #[.ref d,.int 0 0,.int es.size 0,.int ep 0] } }):wpAny (model prog w) A (pyIter (.ref d)) Q E s:=by
 have T:=x.ty
 obtain ⟨o,e1,e2,e3⟩:=x
 refine wpAny_pyIter_slot T F.slot_dict_iter (wpAny_call_entry F.slot_dict_iter T F.entry_dict_iter ?_ (F.args_dict_iter_1 _))
 unfold Builtin.«dict.__iter__»
 refine wB ?_
 unfold Builtin.Dict.dictSlotNone
 refine wB (wpAny_notOrdered_dict T ?_)
 refine (show wpAny _ _ (pure (Value.ref d)) _ _ s from wpAny_pure ?_)
 show wpAny _ A.in1 (Builtin.Dict.showsAll d >>= _) _ _ s
 unfold Builtin.Dict.showsAll
 rw [if_neg (by rw [lo]; simp)]
 refine wB ((wpAny_pure) (wB (wpAny_dictEntries e1 e3 (wB (wpAny_dictEpoch e1 e3 (wB (wpAny_newObj_type (wpAny_pure ⟨_,rfl,"dict_keyiterator",_,⟨_,Heap.get?_push_size _ rfl,rfl⟩,F.slot_dict_keyiterator_next.lookup,?_⟩))))))))
 simpa [rawInt] using q
theorem b53 {Q:Option Value→Shared→Prop}{e:DictEntry}(hit:s.heap.IsKeyIter it d i es.size ep) (x:RawD s.heap d es ep) (he:es[i]?=some e)
 (q:∀ h',h'.IsKeyIter it d (i+1) es.size ep→Heap.SameBut it s.heap h'→Q (some e.key) { s with heap:=h' }):wpAny (model prog w) A (pyNext (.ref it)) Q E s:=by
 have T:=hit.typeIs
 obtain ⟨o,ho,hc,hd⟩:=id hit
 obtain ⟨od,g1,g2,g3⟩:=x
 have hlt:i<es.size:=(Array.getElem?_eq_some_iff.mp he).1
 unfold pyNext
 refine wB (wpAny_attempt (wpAny_callSpecial?_slot (name:=Str.ofString "__next__") T F.slot_dict_keyiterator_next (wpAny_call_entry F.slot_dict_keyiterator_next T F.entry_dict_keyiterator_next ?_ (F.args_dict_keyiterator_next_1 _))))
 refine wB ((wpAny_pure) (wB (wB ?_)))
 first | refine wB (wpAny_typeNameOfWhole_keyiter T (wpAny_pure ?_)) | refine wB (wpAny_typeNameOf_keyiter T (wpAny_pure ?_))
 refine wB (wpAny_fieldsOf ho (hd) ?_)
 simp only [show Builtin.Dict_items.ownsTuple "dict_keyiterator"=false by decide,Bool.false_eq_true,if_false]
 show wpAny _ A.in1 (if (Value.ref d == Value.none)=true then _ else _) _ _ s
 rw [if_neg (fun z:(Value.ref d == Value.none)=true=>Bool.false_ne_true z)]
 refine wB ((wpAny_pure) (wB (wpAny_dictEntries g1 g3 ?_)))
 rw [if_neg (by simp)]
 refine wB ((wpAny_pure) (wB (wpAny_dictEpoch g1 g3 ?_)))
 rw [if_neg (by simp)]
 refine wpAny_pure ?_
 simp only [show ¬ ((i:Int)<0) by omega,if_false,Int.toNat_natCast,he]
 refine wB ?_
 first | refine wB (wpAny_typeNameOfWhole_keyiter T (wpAny_pure ?_)) | refine wB (wpAny_typeNameOf_keyiter T (wpAny_pure ?_))
 refine wB (wpAny_isOneOf_keyiter T ?_)
 show wpAny _ A.in1 (setField (.ref it) 1 (rawInt ((i:Int)+1)) >>= _) _ _ s
 refine wB (wpAny_setField ho (hd) (by simp) ?_)
 have hit2:(s.heap.update it (Obj.mapFields (·.setIfInBounds 1 (rawInt ((i:Int)+1))))).IsKeyIter it d (i+1) es.size ep :=
  ⟨_,Heap.get?_update_self _ ho (Obj.isFreed_of_fields (Obj.data_mapFields hd _)),(Obj.cls_mapFields ..).trans hc,by rw [Obj.data_mapFields hd]; simp [rawInt]⟩
 refine wB (wpAny_holding (wB (wpAny_isOneOf_keyiter (s:={ s with heap:=s.heap.update it (Obj.mapFields (·.setIfInBounds 1 (rawInt ((i:Int)+1)))) }) hit2.typeIs ?_)))
 show wpAny _ A.in1 (pure e.key) _ _ _
 exact wpAny_pure (wpAny_pure ⟨_,rfl,wpAny_pure (q _ hit2 (Heap.SameBut.update ..))⟩)
theorem bf2 {Q:Option Value→Shared→Prop}(hh:A.handled=none) (hit:s.heap.IsKeyIter it d i es.size ep) (x:RawD s.heap d es ep) (he:es.size≤i)
 (q:∀ h',Heap.ExtBut it s.heap h'→Q none { s with heap:=h' }):wpAny (model prog w) A (pyNext (.ref it)) Q E s:=by
 have T:=hit.typeIs
 obtain ⟨o,ho,hc,hd⟩:=id hit
 obtain ⟨od,g1,g2,g3⟩:=x
 unfold pyNext
 refine wB (wpAny_attempt (wpAny_callSpecial?_slot (name:=Str.ofString "__next__") T F.slot_dict_keyiterator_next (wpAny_call_entry F.slot_dict_keyiterator_next T F.entry_dict_keyiterator_next ?_ (F.args_dict_keyiterator_next_1 _))))
 refine wB ((wpAny_pure) (wB (wB ?_)))
 first | refine wB (wpAny_typeNameOfWhole_keyiter T (wpAny_pure ?_)) | refine wB (wpAny_typeNameOf_keyiter T (wpAny_pure ?_))
 refine wB (wpAny_fieldsOf ho (hd) ?_)
 simp only [show Builtin.Dict_items.ownsTuple "dict_keyiterator"=false by decide,Bool.false_eq_true,if_false]
 show wpAny _ A.in1 (if (Value.ref d == Value.none)=true then _ else _) _ _ s
 rw [if_neg (fun z:(Value.ref d == Value.none)=true=>Bool.false_ne_true z)]
 refine wB ((wpAny_pure) (wB (wpAny_dictEntries g1 g3 ?_)))
 rw [if_neg (by simp)]
 refine wB ((wpAny_pure) (wB (wpAny_dictEpoch g1 g3 ?_)))
 rw [if_neg (by simp)]
 refine wpAny_pure ?_
 simp only [show ¬ ((i:Int)<0) by omega,if_false,Int.toNat_natCast,Array.getElem?_eq_none he]
 refine wB ?_
 first | refine wB (wpAny_typeNameOfWhole_keyiter T (wpAny_pure ?_)) | refine wB (wpAny_typeNameOf_keyiter T (wpAny_pure ?_))
 show wpAny _ A.in1 (setField (.ref it) 0 .none >>= _) _ _ s
 refine wB (wpAny_setField ho (hd) (by simp) ?_)
 show wpAny _ A.in1 (newExc (.type "StopIteration") [] >>= _) _ _ _
 refine wB ?_
 simp only [newExc,newTuple]
 refine wB (wpAny_newObj_type ?_ (by size_fits))
 refine wB (m:=firstArgMember _ _) (wpAny_of_eq (a:=Value.none) (by first | rfl | (simp only [firstArgMember]; rfl)) (wpAny_newObj_type ?_ (by size_fits)))
 simp only [raiseNew]
 refine wB (wpAny_handled ?_)
 rw [show A.in1.handled=none from hh]
 refine wB ((wpAny_pure) ((wpAny_throw) ?_))
 refine wB (wpAny_isInstance (b:=true) (T:="StopIteration") ⟨_,Heap.get?_push_size _ rfl,rfl⟩ isSubtype_stop ?_)
 exact wpAny_pure (q _ (((Heap.SameBut.update ..).extBut.push _).push _))
theorem bf3 (hh:A.handled=none) (hne:d≠it):Walks prog w A it [it,d] [it] es.size (fun i v=>∃ e,es[i]?=some e∧v=e.key) (fun i h=>h.IsKeyIter it d i es.size ep∧RawD h d es ep) where
 sub:=fun b hb=>by simp at hb; simp [hb]
 frame:=fun _ _ _ st hk=>⟨st.1.at fun o e=>hk it (by simp) o e,st.2.keep fun o e=>hk d (by simp) o e⟩
 item:=fun i s Q E hi st hQ=>b53 st.1 st.2 (Array.getElem?_eq_getElem hi) fun h' hit' hs=>hQ _ h' s.toks ⟨_,Array.getElem?_eq_getElem hi,rfl⟩ ⟨hit',st.2.keep fun o e=>hs.extBut d o hne e⟩ fun b o hb e=>hs.extBut b o (fun h=>hb (by simp [h])) e
 done:=fun s Q E st hQ=>bf2 hh st.1 st.2 (Nat.le_refl _) fun h' he'=>hQ h' s.toks fun b o hb e=>he' b o (fun h=>hb (by simp [h])) e
 self:=fun _ _ _ _ st hQ=>wpAny_pyIter_keyiter st.1 hQ
theorem by1 (lo:(d == sysModules)=false):W.KdlSrc prog w "dict" d d es.size (fun i v=>∃ e,es[i]?=some e∧v=e.key) (fun h=>RawD h d es ep) where
 type:=fun _ hm=>hm.ty
 there:=fun _ hm=>⟨hm.lt,hm.lt⟩
 keep:=fun _ _ hm hk=>hm.keep fun o e=>hk d (.inl rfl) o e
 notList:=by decide
 notTuple:=by decide
 hint:=fun _ _ _ _ hm hq=>W.kdl_hint_dict hm.ty hq
 iter:=fun _ _ hh hm=>⟨_,_,(fun _ _ hq=>b52 lo hm hq),bf3 hh (Nat.ne_of_lt hm.lt),⟨⟨_,Heap.get?_push_size _ rfl,rfl,rfl⟩,hm.keep fun o e=>gP _ e⟩⟩
end
theorem az1:∀ {xs:List V}{us:List Value},xs.length=us.length→(∀ (j:Nat) x u,xs[j]?=some x→us[j]?=some u→RelV x u)→Vals xs us
 | [],[],_,_=>.nil
 | x::xs,u::us,hl,h=>.cons (h 0 x u rfl rfl) (az1 (by simpa using hl) fun j y z hy hz=>h (j+1) y z (by simpa using hy) (by simpa using hz))
 | [],_::_,hl,_=>by simp at hl
 | _::_,[],hl,_=>by simp at hl
section
variable {X:Cx}{pins:List (Addr×Obj)}{σ:St} {H:Hp}{s:Shared}{a:Addr}{t:Tr}{y v z:V}{u r:Value}{A:Around}{E:Value→Shared→Prop}{kvs:List (Tr×V)}{m:List (Tr×V×V)}
theorem aj6 (I:Inv X pins σ H s) (g:DtAt X.w.params H a kvs):∃ es ep,RawD s.heap a es ep∧(a == sysModules)=false∧es.size=kvs.length∧kvs.length≤sizeLine:=by
 obtain ⟨m,rfl,e2,e3,e4⟩:=g
 obtain ⟨o,es,ep,q1,q2,q3,q4,q5,z1,z2⟩:=ah0 I e2 e3 e4
 exact ⟨es,ep,⟨o,q1,q2,q3⟩,z2,by rw [q4.len,gL],by rw [gL]; exact z1⟩
theorem b84 {Q:Value→Shared→Prop}(hu:A.units+20<cLine) (I:Inv X pins σ H s) (g:DtAt X.w.params H a kvs) (hk:TK H t y) (ry:RelV y u) (hv:valV kvs t=some v) (h:∀ w' s',Inv X pins σ H s'→RelV v w'→Q w' s') :
 wpAny (model X.prog X.w) A (getItem (.ref a) u) Q E s:=by
 obtain ⟨_,_,x,_,_,_⟩:=aj6 I g
 have T:=x.ty
 unfold getItem
 try (with_reducible refine wpAny_holding ?_)
 refine wB (wpAny_sequenceKey T (by decide) (wB (wpAny_callSpecial?_slot (name:=Str.ofString "__getitem__") T slot_dict_getitem (wpAny_call_entry slot_dict_getitem T entry_dict_getitem ?_ (args_dict_getitem _ _)))))
 show wpAny _ A.in1 (dictGet a u >>= _) _ _ s
 refine wB (bf0 (by rw [aa1]; omega) I g hk ry fun o s' I' ro=>?_)
 rw [hv] at ro
 obtain ⟨w',rfl,rw'⟩:=ro.some_of
 exact wpAny_pure ⟨w',rfl,wpAny_pure (h w' s' I' rw')⟩
theorem am7 {Q:Bool→Shared→Prop}(hu:A.units+20<cLine) (I:Inv X pins σ H s) (g:DtAt X.w.params H a kvs) (hk:TK H t y) (ry:RelV y u) (h:∀ s',Inv X pins σ H s'→Q (valV kvs t).isSome s') :
 wpAny (model X.prog X.w) A (contains (.ref a) u) Q E s:=by
 obtain ⟨_,_,x,lo,_,_⟩:=aj6 I g
 have T:=x.ty
 unfold contains
 try (with_reducible refine wpAny_holding ?_)
 refine wB (wpAny_specialOf T slot_dict_contains.lookup ?_)
 show wpAny _ A (if (some (Value.builtin "dict.__contains__") == some Value.none)=true then _ else _) _ E s
 rw [if_neg (by rw [beq_builtin_none]; simp)]
 refine wB (wpAny_callSpecialUnlessNone?_slot (name:=Str.ofString "__contains__") T slot_dict_contains (wpAny_call_entry slot_dict_contains T entry_dict_contains ?_ (args_dict_contains _ _)))
 show wpAny _ A.in1 (dictGet a u >>= _) _ _ s
 refine wB (bf0 (by rw [aa1]; omega) I g hk ry fun o s' I' ro=>?_)
 have h:=h s' I'
 rw [ro.isSome_eq] at h
 cases o with
 | some w'=>exact (show wpAny _ _ (ret (.bool true)) _ _ _ from wpAny_pure ⟨_,rfl,wpAny_truthy_bool h⟩)
 | none=>exact (show wpAny _ _ (Builtin.Dict.pendingKey? a u >>= _) _ _ _ from wB (wpAny_pendingKey_other lo (wpAny_pure ⟨_,rfl,wpAny_truthy_bool h⟩)))
theorem ch6 {Q:Value→Shared→Prop}(hu:A.units+20<cLine) (I:Inv X pins σ H s) (g:DtAt X.w.params H a kvs) (hk:TK H t y) (ry:RelV y u) (h:∀ s',Inv X pins σ H s'→Q (.bool (valV kvs t).isSome) s') :
 wpAny (model X.prog X.w) A (compareOp .In u (.ref a)) Q E s :=
 (show wpAny _ _ (do return .bool (← contains (.ref a) u)) Q E s from wB (am7 hu I g hk ry fun s' I'=>wpAny_pure (h s' I')))
theorem bo6 {Q:Value→Shared→Prop}(hu:A.units+20<cLine) (I:Inv X pins σ H s) (g:DtAt X.w.params H a kvs) (hk:TK H t y) (ry:RelV y u) (h:∀ s',Inv X pins σ H s'→Q (.bool (!(valV kvs t).isSome)) s') :
 wpAny (model X.prog X.w) A (compareOp .NotIn u (.ref a)) Q E s :=
 (show wpAny _ _ (do return .bool (!(← contains (.ref a) u))) Q E s from wB (am7 hu I g hk ry fun s' I'=>wpAny_pure (h s' I')))
theorem b85 {Q:Unit→Shared→Prop}(hu:A.units+20<cLine) (I:Inv X pins σ H s) (e2:DtE X.w.params H a m) (e3:∀ x∈m,x.1.At H x.2.1 []∧x.1.h≤8) (e4:(m.map (·.1)).Nodup) (hz:m.length<sizeLine)
 (hk:TK H t y) (ry:RelV y u) (rv:RelV v r) (h:∀ s',Inv X pins σ (upd H a (DtO X.w.params a (putM m t y v))) s'→Q () s'):wpAny (model X.prog X.w) A (setItem (.ref a) u r) Q E s:=by
 obtain ⟨_,_,x,lo,_,_⟩:=aj6 I ⟨m,rfl,e2,e3,e4⟩
 have T:=x.ty
 unfold setItem
 try (with_reducible refine wpAny_holding ?_)
 refine wB (wpAny_sequenceKey T (by decide) (wB (wpAny_callSpecial?_slot (name:=Str.ofString "__setitem__") T slot_dict_setitem (wpAny_call_entry slot_dict_setitem T entry_dict_setitem ?_ (args_dict_setitem _ _ _)))))
 show wpAny _ A.in1 (Builtin.Dict.notOrdered "__setitem__" ⟨[.ref a,u,r],[]⟩ >>= _) _ _ s
 refine wB (wpAny_notOrdered_dict T ?_)
 show wpAny _ A.in1 (dictSet a u r >>= _) _ _ s
 exact wB (bf1 (by rw [aa1]; omega) I e2 e3 e4 hz hk ry rv fun s' I'=>wpAny_pure ⟨.none,rfl,wpAny_pure (h s' I')⟩)
theorem by2 {Q:Value→Shared→Prop}(hu:A.units+20<cLine) (I:Inv X pins σ H s) (g:DtAt X.w.params H a kvs) (hk:TK H t y) (ry:RelV y u) (rz:RelV z r) (h:∀ w' s',Inv X pins σ H s'→RelV ((valV kvs t).getD z) w'→Q w' s') :
 wpAny (model X.prog X.w) A (call (.builtin "dict.get") [.ref a,u,r]) Q E s:=by
 obtain ⟨_,_,x,lo,_,_⟩:=aj6 I g
 refine wpAny_call_entry PySem.F.slot_dict_get x.ty PySem.F.entry_dict_get ?_ (PySem.F.args_dict_get_3 _ _ _)
 show wpAny _ A.in1 (dictGet a u >>= _) _ _ s
 refine wB (bf0 (by rw [aa1]; omega) I g hk ry fun o s' I' ro=>?_)
 have h:=h (o.getD r) s' I' (ro.getD rz)
 cases o with
 | some w'=>exact wpAny_pure ⟨w',rfl,h⟩
 | none=>exact (show wpAny _ _ (Builtin.Dict.missed a u >>= _) _ _ _ from wB (wpAny_missed_other lo (wpAny_pure ⟨r,rfl,h⟩)))
theorem bf4 {Q:Value→Shared→Prop}(hu:A.units+20<cLine) (I:Inv X pins σ H s) (e2:DtE X.w.params H a m) (e3:∀ x∈m,x.1.At H x.2.1 []∧x.1.h≤8) (e4:(m.map (·.1)).Nodup) (hz:m.length<sizeLine)
 (hk:TK H t y) (ry:RelV y u) (rz:RelV z r) (h1:∀ v w' s',valV (m.map fun x=>(x.1,x.2.2)) t=some v→Inv X pins σ H s'→RelV v w'→Q w' s')
 (h2:∀ s',valV (m.map fun x=>(x.1,x.2.2)) t=none→Inv X pins σ (upd H a (DtO X.w.params a (m++[(t,y,z)]))) s'→Q r s') :
 wpAny (model X.prog X.w) A (call (.builtin "dict.setdefault") [.ref a,u,r]) Q E s:=by
 obtain ⟨_,_,x,lo,_,_⟩:=aj6 I ⟨m,rfl,e2,e3,e4⟩
 obtain ⟨o,es,ep,q1,q2,q3,q4,q5,z1,z2⟩:=ah0 I e2 e3 e4
 have hin:=hk.1.isIn I ry
 refine wpAny_call_entry PySem.F.slot_dict_setdefault x.ty PySem.F.entry_dict_setdefault ?_ (PySem.F.args_dict_setdefault_3 _ _ _)
 unfold Builtin.«dict.setdefault»
 refine wB ?_
 unfold Builtin.Dict.keyAndDefault
 refine wB (wpAny_notOrdered_dict x.ty ?_)
 refine (show wpAny _ _ (pure (a,u,some r)) _ _ s from wpAny_pure ?_)
 show wpAny _ A.in1 (if (a == sysModules)=true then _ else (dictSetDefault a u r >>= _)) _ _ s
 rw [if_neg (by rw [lo]; simp)]
 refine wB ?_
 unfold dictSetDefault
 try (with_reducible refine wpAny_holding ?_)
 refine wB (hin.pyHash (by have:=hk.2; rw [aa1]; omega) fun n=>?_)
 refine wB (az0 (s:={ s with toks:=n }) q1 q3 q5 hin hk.2 (by rw [aa1]; omega) (fun hn=>?_) fun j hj=>?_)
 · refine wB (wpAny_rule (wB (wpAny_updateDictKeys (s:={ s with toks:=n }) q1 q3 (wpAny_pure (wpAny_pure ⟨r,rfl,h2 _ (am6 hn).1 (ak3 (I.tok n) e2.mut (Heap.SameBut.update ..) ?_ (aq1 ⟨by simp; omega,z2,_,_,ep+1,Heap.get?_update_self _ q1 (Obj.isFreed_of_dict (Obj.data_mapDictKeys q3 _)),q2.mapDictKeys _,Obj.data_mapDictKeys q3 _,?_⟩))⟩)) (by rw [q4.len]; omega))))
   · exact ⟨_,Heap.get?_update_self _ q1 (Obj.isFreed_of_dict (Obj.data_mapDictKeys q3 _))⟩
   · exact b51 q4 rfl ry rz
 · rw [gM] at hj
   obtain ⟨p,hp,rfl⟩:=gO hj
   obtain ⟨en,f1,f2,f3,f4⟩:=q4.at_ j p hp
   refine wB (wpAny_dictEntries (s:={ s with toks:=n }) q1 q3 ?_)
   rw [f1]
   exact wB (wpAny_rule (wpAny_pure (wpAny_pure ⟨_,rfl,h1 _ _ _ (as1 e4 hp) (I.tok _) f4⟩)))
theorem by3 {Q:Value→Shared→Prop}(hh:A.handled=none) (I:Inv X pins σ H s) (e2:DtE X.w.params H a m) (e3:∀ x∈m,x.1.At H x.2.1 []∧x.1.h≤8) (e4:(m.map (·.1)).Nodup)
 (h:∀ p s',H p=none→Inv X pins σ (upd H p (.lst (m.map (·.2.1)))) s'→Q (.ref p) s'):wpAny (model X.prog X.w) A (call (.type "list") [.ref a]) Q E s:=by
 obtain ⟨o,es,ep,q1,q2,q3,q4,q5,z1,z2⟩:=ah0 I e2 e3 e4
 refine W.kdl_call (by1 (es:=es) (ep:=ep) z2) hh ⟨o,q1,q2,q3⟩ (by rw [q4.len]; exact z1) fun h' tk acc c hk hS hacc=>h _ _ I.fresh ?_
 refine I.laid (a:=s.heap.objs.size) (t':=tk) hk (Nat.le_refl _) ?_
 refine ⟨by rw [gL]; exact z1,acc.toList,c,?_,by simpa using hS⟩
 have hl:acc.size=m.length:=hacc.1.trans q4.len
 refine az1 (by simp [hl]) fun j x1 x2 hx1 hx2=>?_
 rw [gM] at hx1
 obtain ⟨p,hp,rfl⟩:=gO hx1
 obtain ⟨e,he,rfl⟩:=hacc.2 j x2 (by rw [← Array.getElem?_toList]; exact hx2)
 obtain ⟨en,f1,f2,f3,f4⟩:=q4.at_ j p hp
 rw [he] at f1
 cases f1
 exact f3
end
theorem ah1 {H:Hp}{a:Addr}{φ:Heap→Prop} {o:HO}(h:H a=some (.ext φ)):Tups H (upd H a o):=fun b ys e=>by rw [a09 (ag4 e h (fun z=>nomatch z))]; exact e
theorem ae1 {H H':Hp}{t:Tr}{v:V}(h:t.At H v []) (k:Tups H H'):t.At H' v []:=h.mono ⟨k,fun _ m=>absurd m (by simp)⟩
theorem ad4 {H H':Hp}{ts:List Tr}{vs:List V}(h:Tr.Ats H ts vs []) (k:Tups H H'):Tr.Ats H' ts vs []:=h.mono ⟨k,fun _ m=>absurd m (by simp)⟩
theorem TK.mono {H H':Hp}{t:Tr}{v:V}(h:TK H t v) (k:Tups H H'):TK H' t v:=⟨ae1 h.1 k,h.2⟩
theorem DtAt.ext {P:Params}{H:Hp}{a:Addr}{kvs:List (Tr×V)}(g:DtAt P H a kvs):∃ φ,H a=some (.ext φ):=let ⟨_,_,⟨φ,e,_⟩,_⟩:=g; ⟨φ,e⟩
theorem DtAt.mono {P:Params}{H H':Hp}{a:Addr}{kvs:List (Tr×V)}(g:DtAt P H a kvs) (k:Tups H H') (e:H' a=H a):DtAt P H' a kvs:=by
 obtain ⟨m,e1,⟨φ,e2,hφ⟩,e3,e4⟩:=g
 exact ⟨m,e1,⟨φ,e.trans e2,hφ⟩,fun x hx=>⟨ae1 (e3 x hx).1 k,(e3 x hx).2⟩,e4⟩
theorem as2 {P:Params}{H:Hp}{a:Addr}{m:List (Tr×V×V)}{t:Tr}{y v:V}(e2:DtE P H a m) (e3:∀ x∈m,x.1.At H x.2.1 []∧x.1.h≤8) (e4:(m.map (·.1)).Nodup) (hk:TK H t y) :
 DtAt P (upd H a (DtO P a (putM m t y v))) a (putK (m.map fun x=>(x.1,x.2.2)) t v):=by
 obtain ⟨φ,e2,hφ⟩:=e2
 refine ⟨_,bo3 m t y v,.of a41,?_,bx9 t y v e4⟩
 exact bo4 (p:=fun t y=>t.At (upd H a (DtO P a (putM m _ _ _))) y []∧t.h≤8) (fun x hx=>⟨ae1 (e3 x hx).1 (ah1 e2),(e3 x hx).2⟩) ⟨ae1 hk.1 (ah1 e2),hk.2⟩
theorem bo7 {m:List (Tr×V×V)}{t:Tr}{y v:V}(h:valV (m.map fun x=>(x.1,x.2.2)) t=none):putM m t y v=m++[(t,y,v)]:=by
 unfold putM
 rw [if_neg]
 intro z
 obtain ⟨x,hx,rfl⟩:=List.mem_map.mp z
 have:=bn1 h
 exact this (by
  rw [List.map_map]
  exact List.mem_map_of_mem (f:=fun x=>x.1) hx)
def tTNew (P:Params):TE:=fun _ H Q=>∀ p o,H p=none→DtAt P (upd H p o) p []→Q (.ref p) (upd H p o)
def tTGet (P:Params) (td ty:TE):TE:=fun σ H Q=>td σ H fun x H1=>ty σ H1 fun y H2=>∃ a kvs t v,x=.ref a∧DtAt P H2 a kvs∧TK H2 t y∧valV kvs t=some v∧Q v H2
def tTIn (P:Params) (ty td:TE):TE:=fun σ H Q=>ty σ H fun y H1=>td σ H1 fun x H2=>∃ a kvs t,x=.ref a∧DtAt P H2 a kvs∧TK H2 t y∧Q (.bl (valV kvs t).isSome) H2
def tTNotIn (P:Params) (ty td:TE):TE:=fun σ H Q=>ty σ H fun y H1=>td σ H1 fun x H2=>∃ a kvs t,x=.ref a∧DtAt P H2 a kvs∧TK H2 t y∧Q (.bl (!(valV kvs t).isSome)) H2
def sTPut (P:Params) (td ty tv:TE):TS:=fun D σ H=>tv σ H fun v H1=>td σ H1 fun x H2=>ty σ H2 fun y H3=>∃ a kvs t,x=.ref a∧DtAt P H3 a kvs∧TK H3 t y∧kvs.length<sizeLine∧∀ o,DtAt P (upd H3 a o) a (putK kvs t v)→D.nx σ (upd H3 a o)
def bu4 (P:Params) (td ty tx:TE):TE:=fun σ H Q=>td σ H fun x H1=>∃ a kvs,x=.ref a∧DtAt P H1 a kvs∧ty σ H1 fun y H2=>tx σ H2 fun z H3=>∃ kvs' t,DtAt P H3 a kvs'∧TK H3 t y∧Q ((valV kvs' t).getD z) H3
def tTSetD (P:Params) (td ty tx:TE):TE:=fun σ H Q=>td σ H fun x H1=>∃ a kvs,x=.ref a∧DtAt P H1 a kvs∧ty σ H1 fun y H2=>tx σ H2 fun z H3=>∃ kvs' t,DtAt P H3 a kvs'∧TK H3 t y∧kvs'.length<sizeLine ∧
 (∀ v,valV kvs' t=some v→Q v H3)∧(valV kvs' t=none→∀ o,DtAt P (upd H3 a o) a (kvs'++[(t,z)])→Q z (upd H3 a o))
def rListT (P:Params):List V→Hp→VK→Prop:=fun xs H Q=>∃ a kvs,xs=[.ref a]∧DtAt P H a kvs∧∀ p ks H',H p=none→Same H H'→H' p=some (.lst ks)→Tr.Ats H' (kvs.map (·.1)) ks []→Q (.ref p) H'
section
variable {X:Cx}{o i e f value:Expr}{pos pos' apos cpos:Pos}{td ty tv tx:TE}{P:Params}
theorem az2 (h:Heap) (P:Params) (hb:sysModules<h.objs.size):DtP P h.objs.size [] (h.push { cls:=.type "dict",data:=.dict #[] }) :=
 ⟨Nat.zero_le _,beq_eq_false_iff_ne.mpr (Ne.symm (Nat.ne_of_lt hb)),_,#[],0,Heap.get?_push_size _ rfl,⟨rfl,rfl,rfl⟩,rfl,rfl,fun j x hx=>by simp at hx⟩
theorem az3 (P:Params):PE X (.Dict [] [] pos) (tTNew P):=fun pins s σ H Q I h =>
 wpAny_Dict_empty ⟨.ref s.heap.objs.size,_,I.laid (a:=s.heap.objs.size) (o:=DtO P s.heap.objs.size []) (t':=s.toks) (fun _ _ q=>gP _ q) (Nat.le_refl _) (aq1 (az2 s.heap P I.big)),rfl,
  h _ _ (I.hok.fresh (Nat.le_refl _)) ⟨[],rfl,.of a41,fun x hx=>absurd hx (by simp),List.nodup_nil⟩⟩
theorem ak5 (hP:X.w.params=P) (hu:X.A.units+64<cLine) (ho:PE X o td) (hi:PE X i ty) (hs:NoSl i):PE X (.Subscript o i pos) (tTGet P td ty):=by
 subst hP
 intro pins s σ H Q I h
 refine bw1 PySem.F.slot_dict_getitem.lookup hs (thn (ho pins s σ H _ I h) fun u s1 ⟨x,H1,I1,rx,q1⟩=>thn (hi pins s1 σ H1 _ I1 q1) fun iv s2 ⟨y,H2,I2,ry,a,kvs,t,v,ex,g,hk,hv,q2⟩=>?_)
 subst ex
 obtain rfl:u=Value.ref a:=rx
 obtain ⟨_,_,x,_⟩:=aj6 I2 g
 exact ⟨x.ty,b84 (by omega) I2 g hk ry hv fun w' s3 I3 rw'=>⟨v,H2,I3,rw',q2⟩⟩
theorem cb3 (hP:X.w.params=P) (hu:X.A.units+64<cLine) (hi:PE X i ty) (ho:PE X o td):PC X .In i o (tTIn P ty td):=by
 subst hP
 intro pins s σ H Q I h
 refine thn (hi pins s σ H _ I h) fun iv s1 ⟨y,H1,I1,ry,q1⟩=>thn (ho pins s1 σ H1 _ I1 q1) fun u s2 ⟨x,H2,I2,rx,a,kvs,t,ex,g,hk,q2⟩=>?_
 subst ex
 obtain rfl:u=Value.ref a:=rx
 exact ch6 (by omega) I2 g hk ry fun s3 I3=>⟨.bl _,H2,I3,rfl,q2⟩
theorem am8 (hP:X.w.params=P) (hu:X.A.units+64<cLine) (hi:PE X i ty) (ho:PE X o td):PC X .NotIn i o (tTNotIn P ty td):=by
 subst hP
 intro pins s σ H Q I h
 refine thn (hi pins s σ H _ I h) fun iv s1 ⟨y,H1,I1,ry,q1⟩=>thn (ho pins s1 σ H1 _ I1 q1) fun u s2 ⟨x,H2,I2,rx,a,kvs,t,ex,g,hk,q2⟩=>?_
 subst ex
 obtain rfl:u=Value.ref a:=rx
 exact bo6 (by omega) I2 g hk ry fun s3 I3=>⟨.bl _,H2,I3,rfl,q2⟩
theorem as3 (hP:X.w.params=P) (hu:X.A.units+64<cLine) (ho:PE X o td) (hi:PE X i ty) (hv:PE X value tv) (hs:swapsWith value (some (.Subscript o i pos')) pos.line X.env=pure false) :
 PS X (.Assign [.Subscript o i pos'] value pos) (sTPut P td ty tv):=by
 subst hP
 intro pins s σ H D I h
 refine wpAny_Assign_Subscript (thn (hv pins s σ H _ I h) fun r s1 ⟨v,H1,I1,rv,q1⟩=>thn (ho pins s1 σ H1 _ I1 q1) fun u s2 ⟨x,H2,I2,rx,q2⟩=>thn (hi pins s2 σ H2 _ I2 q2) fun iv s3 ⟨y,H3,I3,ry,a,kvs,t,ex,g,hk,hz,q3⟩=>?_) hs
 subst ex
 obtain rfl:u=Value.ref a:=rx
 obtain ⟨m,rfl,e2,e3,e4⟩:=g
 rw [gL] at hz
 exact b85 (by omega) I3 e2 e3 e4 hz hk ry rv fun s4 I4=>⟨σ,_,I4,q3 _ (as2 e2 e3 e4 hk)⟩
theorem b54 (hP:X.w.params=P) (hu:X.A.units+64<cLine) (ho:PE X o td) (he:PE X e ty) (hf:PE X f tx) (m:M2 X o "get" apos e f cpos):PE X (.Call (.Attribute o "get" apos) [e,f] [] cpos) (bu4 P td ty tx):=by
 subst hP
 intro pins s σ H Q I h
 refine wpAny_Call_method m.base m.few m.line PySem.F.plainAttrs_dict PySem.F.slot_dict_get PySem.F.type_dict_get (thn (ho pins s σ H _ I h) fun u s1 ⟨x,H1,I1,rx,a,kvs,ex,g1,q1⟩=>?_)
 subst ex
 obtain rfl:u=Value.ref a:=rx
 obtain ⟨es,ep,x,_⟩:=aj6 I1 g1
 refine ⟨x.ty,(fun b q=>by cases q; obtain ⟨ob,h1,h2,_⟩:=x; exact ⟨ob,h1,h2.2.1⟩),?_⟩
 rw [m.trees]
 refine Calls.callWith_builtin rfl (Calls.evalArgs_plain (Calls.spliced_cons (thn (he pins s1 σ H1 _ I1 q1) fun iv s2 ⟨y,H2,I2,ry,q2⟩=>Calls.spliced_cons (thn (hf pins s2 σ H2 _ I2 q2) fun fv s3 ⟨z,H3,I3,rz,kvs',t,g,hk,q3⟩=>Calls.spliced_nil ?_))))
 exact by2 (by omega) I3 g hk ry rz fun w' s4 I4 rw'=>⟨_,H3,I4,rw',q3⟩
theorem bo8 (hP:X.w.params=P) (hu:X.A.units+64<cLine) (ho:PE X o td) (he:PE X e ty) (hf:PE X f tx) (m:M2 X o "setdefault" apos e f cpos):PE X (.Call (.Attribute o "setdefault" apos) [e,f] [] cpos) (tTSetD P td ty tx):=by
 subst hP
 intro pins s σ H Q I h
 refine wpAny_Call_method m.base m.few m.line PySem.F.plainAttrs_dict PySem.F.slot_dict_setdefault PySem.F.type_dict_setdefault (thn (ho pins s σ H _ I h) fun u s1 ⟨x,H1,I1,rx,a,kvs,ex,g1,q1⟩=>?_)
 subst ex
 obtain rfl:u=Value.ref a:=rx
 obtain ⟨es,ep,x,_⟩:=aj6 I1 g1
 refine ⟨x.ty,(fun b q=>by cases q; obtain ⟨ob,h1,h2,_⟩:=x; exact ⟨ob,h1,h2.2.1⟩),?_⟩
 rw [m.trees]
 refine Calls.callWith_builtin rfl (Calls.evalArgs_plain (Calls.spliced_cons (thn (he pins s1 σ H1 _ I1 q1) fun iv s2 ⟨y,H2,I2,ry,q2⟩=>Calls.spliced_cons (thn (hf pins s2 σ H2 _ I2 q2) fun fv s3 ⟨z,H3,I3,rz,kvs',t,g,hk,hz,n1,n2⟩=>Calls.spliced_nil ?_))))
 obtain ⟨mm,rfl,e2,e3,e4⟩:=g
 rw [gL] at hz
 refine bf4 (by omega) I3 e2 e3 e4 hz hk ry rz (fun v w' s' hv I' rv=>⟨v,H3,I',rv,n1 v hv⟩) fun s' hv I'=>⟨z,_,I',rz,n2 hv _ ?_⟩
 have:=as2 (v:=z) e2 e3 e4 hk
 rw [bo7 hv,bm7 z hv] at this
 exact this
theorem bo9 (hP:X.w.params=P) (hc:X.calm=true):CallR X (.type "list") (rListT P):=by
 subst hP
 intro pins s σ H xs us Q I r h
 obtain ⟨a,kvs,rfl,⟨m,rfl,e2,e3,e4⟩,q⟩:=h
 cases r with
 | cons r1 r2 =>
 cases r2
 cases r1
 refine by3 (I.ok.hd hc) I e2 e3 e4 fun p s' hp I'=>⟨.ref p,_,I',rfl,q p _ _ hp (Same.new hp) a41 ?_⟩
 have sm:Same H (upd H p (.lst (m.map (·.2.1)))):=Same.new hp
 clear I'
 generalize upd H p (.lst (m.map (·.2.1)))=H' at sm
 clear q e2 e4
 rw [List.map_map]
 induction m with
 | nil=>simp [Tr.Ats]
 | cons x m ih =>
   simp only [List.map_cons,Tr.Ats]
   exact ⟨_,_,[],[],rfl,rfl,ae1 (e3 x List.mem_cons_self).1 sm.tups,ih (fun z hz=>e3 z (List.mem_cons_of_mem _ hz))⟩
end
def rNotInF (K:W.Frag):R2:=fun x y H Q=>∃ (t:Tr) (ts:List Tr) (a:Addr) (vs:List V),t.At H x []∧y=.ref a∧SqL K H a vs∧Tr.Ats H ts vs []∧t.h≤20∧Tr.hs ts≤20∧Q (.bl (!decide (t∈ts))) H
def rSum (K:W.Frag):List V→Hp→VK→Prop:=fun xs H Q=>∃ (a:Addr) (ns:List Int),xs=[.ref a]∧SqL K H a (ns.map V.int)∧Q (.int ns.sum) H
section
variable {X:Cx}
theorem cb4 {ts:List Tr}{t:Tr}(h:t∈ts):t.h≤Tr.hs ts:=by
 induction ts with
 | nil=>cases h
 | cons x xs ih =>
   simp only [Tr.hs]
   rcases List.mem_cons.mp h with rfl | h
   · omega
   · have:=ih h; omega
theorem bf5 {h:Heap}{ts:List Tr}{us:List Value}(x:Tr.Ins h ts us) {z:Value}(hz:z∈us):∃ t∈ts,Tr.In h t z:=by
 obtain ⟨j,hj,rfl⟩:=List.mem_iff_getElem.mp hz
 have hj':j<ts.length:=by rw [← x.len]; exact hj
 exact ⟨ts[j],List.getElem_mem hj',x.get j hj hj'⟩
theorem ak6 (K:W.Frag) (hu:X.A.units+64<cLine) (hK:X.K=K:=by rfl):OpR X (compareOp .NotIn) (rNotInF K):=by
 classical
 subst hK
 intro pins s σ H x y v u Q I rx ry h
 obtain ⟨t,ts,a,vs,h1,rfl,h2,h3,l1,l2,q⟩:=h
 cases ry
 obtain ⟨its,v1,p1,_⟩:=I.list h2
 have hin:=h1.isIn I rx
 have his:=h3.isIns I v1
 refine SeqAt.notIn_listAt (fun z=>decide (∃ r,Tr.In s.heap r z∧r=t)) p1.isList (fun z hz=>?_) ?_
 · obtain ⟨r,hr,hz'⟩:=bf5 his (by simpa using hz)
   have:=hz'.eqAt hin (A:=X.A.in1) (by have:=cb4 hr; rw [aa1]; omega)
   rw [show decide (∃ q,Tr.In s.heap q z∧q=t)=decide (r=t) from Bool.eq_iff_iff.mpr (by
    simp only [decide_eq_true_iff]
    exact ⟨fun ⟨q,a,b⟩=>(hz'.inj a).trans b,fun e=>⟨r,hz',e⟩⟩)]
   exact this
 · refine ⟨.bl (!decide (t∈ts)),H,I,?_,q⟩
   rw [show its.toArray.any (fun z=>decide (∃ r,Tr.In s.heap r z∧r=t))=decide (t∈ts) from ?_]
   · rfl
   rw [← Array.any_toList,Bool.eq_iff_iff,List.any_eq_true,decide_eq_true_iff]
   constructor
   · rintro ⟨z,hz,e⟩
     obtain ⟨r,hr,rfl⟩:=of_decide_eq_true e
     obtain ⟨r',hm,hr'⟩:=bf5 his (by simpa using hz)
     exact hr'.inj hr ▸ hm
   · intro hm
     obtain ⟨j,hj,rfl⟩:=List.mem_iff_getElem.mp hm
     have hj':j<its.length:=by rw [his.len]; exact hj
     exact ⟨its[j],by simp,decide_eq_true ⟨_,his.get j hj' hj,rfl⟩⟩
theorem cb5 (hc:X.calm=true):CallR X (.builtin "sum") (rSum X.K):=by
 intro pins s σ H xs us Q I r h
 obtain ⟨a,ns,rfl,hS,q⟩:=h
 cases r with
 | cons r1 r2 =>
 cases r2
 cases r1
 obtain ⟨its,v1,p1,_⟩:=I.list hS
 have hi:=b79 v1
 obtain ⟨ys,e⟩:=hi.allInts.items
 have hn:=nums_intItems (xs:=ys)
 rw [← e,show its.toArray.toList=its from rfl,hi.numsOf] at hn
 refine sum_intListG (xs:=ys) (I.ok.hd hc) (e ▸ p1.isList) fun h' tk t' hk=>⟨.int ns.sum,H,I.kept hk,⟨t',?_⟩,q⟩
 rw [preSum_eq,List.take_of_length_le (by simp),hn]
end
section
variable {P:Params}{σ:St} {H:Hp}{Q:VK}{td ty tx tv:TE}{nn bb cc:St→Hp→Prop}{rr:VK}
theorem cb6 (h:∀ p o,H p=none→DtAt P (upd H p o) p []→Q (.ref p) (upd H p o)):tTNew P σ H Q:=h
theorem cb7 (h:td σ H fun x H1=>ty σ H1 fun y H2=>∃ a kvs t v,x=.ref a∧DtAt P H2 a kvs∧TK H2 t y∧valV kvs t=some v∧Q v H2):tTGet P td ty σ H Q:=h
theorem ch7 (h:ty σ H fun y H1=>td σ H1 fun x H2=>∃ a kvs t,x=.ref a∧DtAt P H2 a kvs∧TK H2 t y∧Q (.bl (valV kvs t).isSome) H2):tTIn P ty td σ H Q:=h
theorem bp0 (h:ty σ H fun y H1=>td σ H1 fun x H2=>∃ a kvs t,x=.ref a∧DtAt P H2 a kvs∧TK H2 t y∧Q (.bl (!(valV kvs t).isSome)) H2):tTNotIn P ty td σ H Q:=h
theorem cb8 (h:tv σ H fun v H1=>td σ H1 fun x H2=>ty σ H2 fun y H3=>∃ a kvs t,x=.ref a∧DtAt P H3 a kvs∧TK H3 t y∧kvs.length<sizeLine∧∀ o,DtAt P (upd H3 a o) a (putK kvs t v)→nn σ (upd H3 a o)):sTPut P td ty tv ⟨nn,rr,bb,cc⟩ σ H:=h
theorem by4 (h:td σ H fun x H1=>∃ a kvs,x=.ref a∧DtAt P H1 a kvs∧ty σ H1 fun y H2=>tx σ H2 fun z H3=>∃ kvs' t,DtAt P H3 a kvs'∧TK H3 t y∧Q ((valV kvs' t).getD z) H3):bu4 P td ty tx σ H Q:=h
theorem by5 (h:td σ H fun x H1=>∃ a kvs,x=.ref a∧DtAt P H1 a kvs∧ty σ H1 fun y H2=>tx σ H2 fun z H3=>∃ kvs' t,DtAt P H3 a kvs'∧TK H3 t y∧kvs'.length<sizeLine ∧
 (∀ v,valV kvs' t=some v→Q v H3)∧(valV kvs' t=none→∀ o,DtAt P (upd H3 a o) a (kvs'++[(t,z)])→Q z (upd H3 a o))):tTSetD P td ty tx σ H Q:=h
end
def rEqNil (K:W.Frag):R2:=fun x y H Q=>∃ a b xs,x=.ref a∧y=.ref b∧SqL K H a xs∧SqL K H b []∧Q (.bl xs.isEmpty) H
def rNeNil (K:W.Frag):R2:=fun x y H Q=>∃ a b xs,x=.ref a∧y=.ref b∧SqL K H a xs∧SqL K H b []∧Q (.bl (!xs.isEmpty)) H
section
variable {X:Cx}
theorem bf6 (K:W.Frag) (hu:X.A.units+64<cLine) (hK:X.K=K:=by rfl):OpR X (compareOp .Eq) (rEqNil K):=by
 subst hK
 intro pins s σ H x y v u Q I rx ry h
 obtain ⟨a,b,xs,rfl,rfl,h1,h2,q⟩:=h
 cases rx
 cases ry
 obtain ⟨is1,q1,p1,_⟩:=I.list h1
 obtain ⟨is2,q2,p2,_⟩:=I.list h2
 cases q2
 cases q1 with
 | nil =>
   have:=SeqAt.RcAt.lists (A:=X.A) (s:=s) (e:=fun _=>true) p1.isList p2.isList rfl (by omega) (fun j h1 _=>absurd h1 (by simp))
   exact this X.prog X.w X.xe (EP X pins σ Q) ⟨.bl true,H,I,rfl,q⟩
 | cons r1 r2 =>
   have:=SeqAt.RcAt.lists_lengths (A:=X.A) (s:=s) p1.isList p2.isList (by simp) (by omega)
   exact this X.prog X.w X.xe (EP X pins σ Q) ⟨.bl false,H,I,rfl,q⟩
theorem bf7 (K:W.Frag) (hu:X.A.units+64<cLine) (hK:X.K=K:=by rfl):OpR X (compareOp .NotEq) (rNeNil K):=by
 subst hK
 intro pins s σ H x y v u Q I rx ry h
 obtain ⟨a,b,xs,rfl,rfl,h1,h2,q⟩:=h
 cases rx
 cases ry
 obtain ⟨is1,q1,p1,_⟩:=I.list h1
 obtain ⟨is2,q2,p2,_⟩:=I.list h2
 cases q2
 cases q1 with
 | nil =>
   have:=SeqAt.RcNeAt.lists (A:=X.A) (s:=s) (e:=fun _=>true) p1.isList p2.isList rfl (by omega) (fun j h1 _=>absurd h1 (by simp))
   exact this X.prog X.w X.xe (EP X pins σ Q) ⟨.bl false,H,I,rfl,q⟩
 | cons r1 r2 =>
   have:=SeqAt.RcNeAt.lists_lengths (A:=X.A) (s:=s) p1.isList p2.isList (by simp) (by omega)
   exact this X.prog X.w X.xe (EP X pins σ Q) ⟨.bl true,H,I,rfl,q⟩
theorem bf8 (K:W.Frag) (h:X.calm=true:=by rfl) (hK:X.K=K:=by rfl):CallR X (.builtin "sum") (rSum K):=hK ▸ cb5 h
end
section
variable {K:W.Frag}{H:Hp}{Q:VK}
theorem by6 {a b:Addr}{xs:List V}(h1:SqL K H a xs) (h2:SqL K H b []) (h:Q (.bl xs.isEmpty) H):rEqNil K (.ref a) (.ref b) H Q:=⟨a,b,xs,rfl,rfl,h1,h2,h⟩
theorem by7 {a b:Addr}{xs:List V}(h1:SqL K H a xs) (h2:SqL K H b []) (h:Q (.bl (!xs.isEmpty)) H):rNeNil K (.ref a) (.ref b) H Q:=⟨a,b,xs,rfl,rfl,h1,h2,h⟩
theorem cb9 {a:Addr}{ns:List Int}(h1:SqL K H a (ns.map V.int)) (h:Q (.int ns.sum) H):rSum K [.ref a] H Q:=⟨a,ns,rfl,h1,h⟩
theorem as4 {x:V}{a:Addr}{t:Tr}{ts:List Tr}{vs:List V}(h1:t.At H x []) (h2:SqL K H a vs) (h3:Tr.Ats H ts vs []) (l1:t.h≤20) (l2:Tr.hs ts≤20) (h:Q (.bl (!decide (t∈ts))) H):rNotInF K x (.ref a) H Q:=⟨t,ts,a,vs,h1,rfl,h2,h3,l1,l2,h⟩
end
section
variable {X:Cx}{o e value:Expr}{f:Str}{pos pos':Pos}{ta tv:TE}
theorem a99 (K:W.Frag) (he:PE X e ta) (hb:attributeBase e f X.env (eval e X.env)=eval e X.env) (hK:X.K=K:=by rfl):PE X (.Attribute e f pos) (tFld K ta f):=hK ▸ c62 he hb
theorem ah2 (K:W.Frag) (ha:PE X o ta) (hv:PE X value tv) (hs:swapsWith value (some (.Attribute o f pos')) pos.line X.env=pure false) (hK:X.K=K:=by rfl):PS X (.Assign [.Attribute o f pos'] value pos) (sFld K ta tv f):=hK ▸ c63 ha hv hs
end
section
variable {K:W.Frag}{σ:St} {H:Hp}{Q:VK}{ta tv:TE}{t:TA}{f m:Str}{C:Addr}{sp:Sp}{dvs:List V}{E:XK}{nn bb cc:St→Hp→Prop}{rr:VK}
theorem ch8 (h:ta σ H fun x H1=>∃ a C dx fs v,x=.ref a∧H1 a=some (.ins C dx fs)∧Cls K C∧NoAttr K C f∧fs.lookup f=some v∧Q v H1):tFld K ta f σ H Q:=h
theorem cc0 (h:tv σ H fun y H1=>ta σ H1 fun x H2=>∃ a C dx fs,x=.ref a∧H2 a=some (.ins C dx fs)∧Cls K C∧NoAttr K C f∧fs.length<1000∧nn σ (upd H2 a (.ins C dx (putF f y fs)))):sFld K ta tv f ⟨nn,rr,bb,cc⟩ σ H:=h
theorem cc1 (h:ta σ H fun x H1=>∃ a dx fs,x=.ref a∧H1 a=some (.ins C dx fs)∧fs.lookup m=none∧t σ H1 fun vs H2=>sp (x::(vs++dvs)) H2 Q E):tMeth C m sp dvs E ta t σ H Q:=h
theorem cc2 (h:t σ H fun vs H1=>∀ x dx,H1 x=none→H1 dx=none→dx≠x→sp (.ref x::(vs++dvs)) (upd (upd H1 dx (.own x)) x (.ins C dx [])) (fun v H2=>v=.non∧Q (.ref x) H2) E):tMake C sp dvs E t σ H Q:=h
end
theorem ac5 {H:Hp}{a C dx:Addr}{fs:List (Str×V)}{o:HO}(h:H a=some (.ins C dx fs)):Tups H (upd H a o):=fun b ys e=>by rw [a09 (ag4 e h (fun z=>nomatch z))]; exact e
inductive Tw where
 | sc (v:V)
 | tup (xs:List Tw)
 | lst (xs:List Tw)
def Scal:V→Prop
 | .non | .int _ | .str _ | .bl _=>True
 | _=>False
mutual
def Tw.At (H:Hp):Tw→V→List Addr→Prop
 | .sc x,v,fs=>v=x∧Scal x∧fs=[]
 | .tup xs,v,fs=>∃ a vs,v=.ref a∧H a=some (.tup vs)∧Tw.Ats H xs vs fs
 | .lst xs,v,fs=>∃ a vs gs,v=.ref a∧H a=some (.lst vs)∧Tw.Ats H xs vs gs∧fs=a::gs
def Tw.Ats (H:Hp):List Tw→List V→List Addr→Prop
 | [],vs,fs=>vs=[]∧fs=[]
 | x::xs,vs,fs=>∃ v ws f g,vs=v::ws∧fs=f++g∧Tw.At H x v f∧Tw.Ats H xs ws g
end
mutual
theorem Tw.At.mono {H H':Hp}:∀ {x:Tw}{v:V}{fs:List Addr},x.At H v fs→Keep fs H H'→x.At H' v fs
 | .sc _,_,_,h,_=>by simpa only [Tw.At] using h
 | .tup xs,v,fs,h,k=>by
   simp only [Tw.At] at h ⊢
   obtain ⟨a,vs,e,g,r⟩:=h
   exact ⟨a,vs,e,k.1 _ _ g,Tw.Ats.mono r k⟩
 | .lst xs,v,fs,h,k=>by
   simp only [Tw.At] at h ⊢
   obtain ⟨a,vs,gs,e,g,r,rfl⟩:=h
   exact ⟨a,vs,gs,e,k.2 _ (by simp) _ g,Tw.Ats.mono r (k.sub fun b m=>by simp [m]),rfl⟩
theorem Tw.Ats.mono {H H':Hp}:∀ {xs:List Tw}{vs:List V}{fs:List Addr},Tw.Ats H xs vs fs→Keep fs H H'→Tw.Ats H' xs vs fs
 | [],_,_,h,_=>by simpa only [Tw.Ats] using h
 | x::xs,vs,fs,h,k=>by
   simp only [Tw.Ats] at h ⊢
   obtain ⟨v,ws,f,g,e,rfl,a,b⟩:=h
   exact ⟨v,ws,f,g,e,rfl,Tw.At.mono a (k.sub fun c m=>by simp [m]),Tw.Ats.mono b (k.sub fun c m=>by simp [m])⟩
end
theorem Tw.Ats.same {H H':Hp}{xs:List Tw}{vs:List V}{fs:List Addr}(h:Tw.Ats H xs vs fs) (s:Same H H'):Tw.Ats H' xs vs fs:=h.mono (s.keep _)
theorem Tw.Ats.len {H:Hp}:∀ {xs:List Tw}{vs:List V}{fs:List Addr},Tw.Ats H xs vs fs→vs.length=xs.length
 | [],vs,fs,h=>by simp only [Tw.Ats] at h; rw [h.1]; rfl
 | x::xs,vs,fs,h=>by
   simp only [Tw.Ats] at h
   obtain ⟨v,ws,f,g,rfl,rfl,_,b⟩:=h
   simp [b.len]
theorem Tw.Ats.snoc {H:Hp}:∀ {xs:List Tw}{vs:List V}{fs gs:List Addr}{x:Tw}{v:V},Tw.Ats H xs vs fs→x.At H v gs→Tw.Ats H (xs++[x]) (vs++[v]) (fs++gs)
 | [],vs,fs,gs,x,v,h,a=>by
   simp only [Tw.Ats] at h
   obtain ⟨rfl,rfl⟩:=h
   simp only [List.nil_append,Tw.Ats]
   exact ⟨v,[],gs,[],rfl,by simp,a,rfl,rfl⟩
 | y::ys,vs,fs,gs,x,v,h,a=>by
   simp only [Tw.Ats,List.cons_append] at h ⊢
   obtain ⟨w,ws,f,g,rfl,rfl,b,c⟩:=h
   exact ⟨w,ws++[v],f,g++gs,rfl,by simp,b,c.snoc a⟩
theorem Tw.Ats.get {H:Hp}:∀ {xs:List Tw}{vs:List V}{fs:List Addr},Tw.Ats H xs vs fs→∀ (i:Nat) (v:V),vs[i]?=some v→∃ x f,xs[i]?=some x∧x.At H v f∧∀ a∈f,a∈fs
 | [],vs,fs,h,i,v,e=>by simp only [Tw.Ats] at h; rw [h.1] at e; simp at e
 | x::xs,vs,fs,h,i,v,e=>by
   simp only [Tw.Ats] at h
   obtain ⟨w,ws,f,g,rfl,rfl,a,b⟩:=h
   cases i with
   | zero =>
     obtain rfl:w=v:=by simpa using e
     exact ⟨x,f,rfl,a,fun c m=>by simp [m]⟩
   | succ i =>
     obtain ⟨y,f',h1,h2,h3⟩:=b.get i v (by simpa using e)
     exact ⟨y,f',by simpa using h1,h2,fun c m=>by simp [h3 c m]⟩
section
variable {X:Cx}{pins:List (Addr×Obj)}{σ:St} {H:Hp}{s:Shared}
end
def bf9:List V→Hp→VK→Prop:=fun xs H Q=>∃ n:Nat,xs=[.int (n:Nat)]∧n≤1000000∧New H (.rng 0 (n:Nat)) Q
def rListR:List V→Hp→VK→Prop:=fun xs H Q=>∃ (a:Addr) (n:Nat),xs=[.ref a]∧H a=some (.rng 0 (n:Nat))∧n≤1000000∧New H (.lst (natsV (List.range n))) Q
section
variable {X:Cx}
theorem bg0:CallR X (.type "range") bf9:=by
 intro pins s σ H xs us Q I r h
 obtain ⟨n,rfl,hn,q⟩:=h
 cases r with
 | cons r1 r2 =>
 cases r2
 obtain ⟨t,rfl⟩:=r1
 refine call_range_1 ⟨.ref s.heap.objs.size,upd H s.heap.objs.size (.rng 0 (n:Nat)),I.laid (fun b o e=>gP _ e) (Nat.le_refl _) ⟨_,_,_,Heap.get?_push_size _ rfl⟩,rfl,New.to q _ I.fresh⟩
theorem bp1 (hc:X.calm=true):CallR X (.type "list") rListR:=by
 intro pins s σ H xs us Q I r h
 obtain ⟨a,n,rfl,e,hn,q⟩:=h
 cases r with
 | cons r1 r2 =>
 cases r2
 cases r1
 obtain ⟨t,u,v,hg⟩:=I.hok a _ e
 refine call_list_range (n:=n) (I.ok.hd hc) hg (small_one (by omega) (by omega) (by omega) (by omega)) (by rw [rangeSize_one]; split <;> omega) (by omega) fun h' tk acc c hk hS hacc=>⟨.ref s.heap.objs.size,_,I.laid (a:=s.heap.objs.size) (t':=tk) hk (Nat.le_refl _) ?_,rfl,New.to q _ I.fresh⟩
 refine ⟨le_line (by simp [natsV]; omega),acc.toList,c,?_,by simpa using hS⟩
 refine az1 (by simp [natsV,hacc.1]) fun j x1 x2 hx1 hx2=>?_
 have hj:j<n:=by
  have:=(gS hx1).1
  simpa [natsV] using this
 obtain ⟨t2,rfl⟩:=hacc.2 j x2 (by rw [← Array.getElem?_toList]; exact hx2)
 have:x1=.int (j:Nat):=by simpa [natsV,hj] using hx1.symm
 subst this
 exact ⟨t2,by simp⟩
end
theorem bp2 {K:W.Frag}{a:Addr}{xs:List V}{g:TG}{tb:TS}{D:Ends}{σ:St} {H:Hp}(Pv:Nat→St→Hp→Prop) (h0:Pv 0 σ H) (hl:∀ i σ H,i≤xs.length→Pv i σ H→SqL K H a xs)
 (hs:∀ i x σ H q H2,xs[i]?=some x→Pv i σ H→Same H H2→H2 q=some (.tup [.int (i:Nat),x])→g (.ref q) σ H2 fun σ1 H1=>tb { D with nx:=Pv (i+1),ct:=Pv (i+1),bk:=D.nx } σ1 H1)
 (hd:∀ σ H,Pv xs.length σ H→D.nx σ H):ForEnd (Ite K a) g tb D σ H:=by
 refine ⟨fun i m σ H=>m=xs.length - i∧i≤xs.length∧Pv i σ H,⟨xs.length,by simp,Nat.zero_le _,h0⟩,?_⟩
 rintro i m σ' H' ⟨rfl,hi,p⟩
 have hq:=hl i σ' H' hi p
 by_cases hlt:i<xs.length
 · refine .inr ⟨⟨xs,xs[i],hq,by simp [hlt]⟩,Pv (i+1),fun σ2 H2 p'=>⟨xs.length - (i+1),by omega,rfl,hlt,p'⟩,fun v H2 y=>?_⟩
   obtain ⟨q,x,rfl,hn,sm,hT,hx⟩:=y
   exact hs i x σ' H' q H2 (hx xs hq) p sm hT
 · have e:i=xs.length:=by omega
   subst e
   exact .inl ⟨⟨xs,hq,Nat.le_refl _⟩,hd σ' H' p⟩
section
variable {K:W.Frag}{H:Hp}{Q:VK}
theorem bp3 {n:Nat}(hn:n≤1000000) (h:New H (.rng 0 (n:Nat)) Q):bf9 [.int (n:Nat)] H Q:=⟨n,rfl,hn,h⟩
theorem by8 {a:Addr}{n:Nat}(e:H a=some (.rng 0 (n:Nat))) (hn:n≤1000000) (h:New H (.lst (natsV (List.range n))) Q):rListR [.ref a] H Q:=⟨a,n,rfl,e,hn,h⟩
end
theorem bp4 {K:W.Frag}{σ:St} {H:Hp}{Q:VK}{i:Nat}{a:Addr}{xs:List V}{k:Key}{y:V}(e:σ[i]?=some (some (.ref a))) (h1:H a=some (.lst xs)) (h2:xs[0]?=some (kV k)) (h:New H (.dK [(k,y)]) Q):tDisp [(tOp (rIxL K) (tVar i) (tC (.int 0)),tC y)] σ H Q:=fun p hp=>by
 refine ⟨.ref a,e,?_⟩
 refine a93 (SqL.of (show upd H p (.dK []) a=_ by rw [a09 (a05 h1 hp)]; exact h1)) (a04 (j:=0) h2) ?_
 exact ⟨a41,[(k,y)],rfl,by simp,by rw [ba6]; exact New.to h p hp⟩
def Itr3 (lo:Int) (n:Nat):It:=⟨fun i _=>i<n,fun i H x H'=>H'=H∧x=.int (lo+i*3),fun i _=>n≤i⟩
theorem az4 {P:Program}{w:World}{K:W.Frag}{tg:Expr}(it:Addr) (lo:Int) (n:Nat):Turn P w K tg (Itr3 lo n) [it] it (fun i h=>IsRangeIter h it (lo+(i:Nat)*3) ((n:Int) - (i:Nat)) 3) where
 mem:=by simp
 obj:=fun i h st b hb=>by
  have e:b=it:=by simpa using hb
  subst e
  exact ⟨_,st,fun v z=>by
   have z':Data.fields _=Data.cell v:=z
   cases z'⟩
 keep:=fun i h h' st k=>k it (by simp) _ st
 item:=by
  intro X hP hw hK hc i pins s σ H E I hf st hg
  subst hP hw hK
  obtain ⟨f0,f1,f2,f3,f4,f5⟩:=hf it (by simp)
  have W:=Walks.range (prog:=X.prog) (w:=X.w) (I.ok.hd hc) it lo 3 n
  refine W.item i s _ _ hg st fun v h' tk hv st' kk=>?_
  obtain ⟨t,rfl⟩:=hv
  have I1:Inv X pins σ H { s with heap:=h',toks:=tk }:=I.turned (fun b o hb e=>kk b o (by simpa using hb) e) f0 f1 f3 f4 f5
  exact ⟨_,rfl,bb4 (s:={ s with heap:=h',toks:=tk }) (n:="range_iterator") st' rfl rfl (by decide) ⟨.int (lo+i*3),H,I1,⟨t,rfl⟩,⟨rfl,rfl⟩,st',fun b hb=>(hf b hb).1⟩⟩
 done:=by
  intro X hP hw hK hc i pins s σ H E I hf st hg
  subst hP hw hK
  obtain ⟨f0,f1,f2,f3,f4,f5⟩:=hf it (by simp)
  exact wpAny_pyNext_range_end (I.ok.hd hc) st (by have:n≤i:=hg; omega) fun h' eb=>⟨rfl,I.turned (t':=s.toks) (fun b o hb e=>eb b o hb e) f0 f1 f3 f4 f5⟩
 self:=fun _ _ _ _ _ st h=>wpAny_pyIter_rangeiter st h
theorem az5 {a b:Int}(h1:-(2 ^ 40)≤a) (h2:a<2 ^ 40) (h3:-(2 ^ 40)≤b) (h4:b<2 ^ 40):Builtin.Range.small a b 3=true:=by
 have hs:0≤Builtin.Range.rangeSize a b 3∧Builtin.Range.rangeSize a b 3<2 ^ 42:=by
  unfold Builtin.Range.rangeSize
  rw [if_pos (by decide)]
  split <;> omega
 unfold Builtin.Range.small
 rw [if_pos (by decide)]
 generalize Builtin.Range.rangeSize a b 3=z at hs
 simp only [Builtin.Range.rangeFitsLong,Bool.and_eq_true,Bool.or_eq_true,decide_eq_true_eq,beq_iff_eq]
 omega
def as5 (lo hi:Int):Nat:=((hi - lo+2) / 3).toNat
section
variable {X:Cx}{tg:Expr}
theorem bg1 {pins:List (Addr×Obj)}{σ:St} {H:Hp}{s:Shared}{R:It→Hp→Prop}{E:Value→Shared→Prop}{lo hi:Int}{t u v:Tok}(I:Inv X pins σ H s) (h1:-(2 ^ 40)≤lo) (h2:lo<2 ^ 40) (h3:-(2 ^ 40)≤hi) (h4:hi<2 ^ 40)
 (q:R (Itr3 lo (as5 lo hi)) H):wpAny (model X.prog X.w) X.A (pyIter (.ref s.heap.objs.size)) (PIE X pins σ tg R) E { s with heap:=s.heap.push { cls:=.type "range",data:=.fields #[.int lo t,.int hi u,.int 3 v] } }:=by
 refine wpAny_pyIter_range (IsRange.new ..) (az5 h1 h2 h3 h4) ?_
 have I1:Inv X pins σ H { s with heap:=s.heap.push { cls:=.type "range",data:=.fields #[.int lo t,.int hi u,.int 3 v] } }:=I.kept (t':=s.toks) fun b o e=>gP _ e
 refine ⟨(s.heap.push { cls:=.type "range",data:=.fields #[.int lo t,.int hi u,.int 3 v] }).objs.size,[(s.heap.push { cls:=.type "range",data:=.fields #[.int lo t,.int hi u,.int 3 v] }).objs.size],_,_,H,rfl,
  I1.kept (t':=s.toks) fun b o e=>gP _ e,az4 _ lo (as5 lo hi),?_,fun b hb=>?_,q⟩
 · have e1:lo+((0:Nat):Int)*3=lo:=by simp
   have e2:((as5 lo hi:Nat):Int) - ((0:Nat):Int)=Builtin.Range.rangeSize lo hi 3:=by
    unfold Builtin.Range.rangeSize as5
    rw [if_pos (by decide)]
    split <;> omega
   show IsRangeIter _ _ (lo+((0:Nat):Int)*3) (((as5 lo hi:Nat):Int) - ((0:Nat):Int)) 3
   rw [e1,e2]
   exact Heap.get?_push_size _ rfl
 · have e:b=(s.heap.push { cls:=.type "range",data:=.fields #[.int lo t,.int hi u,.int 3 v] }).objs.size:=by simpa using hb
   subst e
   exact I1.fpOk (Nat.le_refl _) (I1.hok.fresh (Nat.le_refl _))
def cc3 (ta:TA):TI:=fun σ H R=>ta σ H fun vs H1=>∃ i j:Int,vs=[.int i,.int j,.int 3]∧(-(2 ^ 40)≤i∧i<2 ^ 40∧-(2 ^ 40)≤j∧j<2 ^ 40)∧R (Itr3 i (as5 i j)) H1
theorem bg2 {a b c:Expr}{ta:TA}{p pos:Pos}(hg:Gl X "range") (hm:X.mg "range"=none) (ha:PA X [a,b,c] ta) (hs:starEach [a,b,c] X.env=[(false,eval a X.env),(false,eval b X.env),(false,eval c X.env)]:=by rfl) (hs2:starEach [b,c] X.env=[(false,eval b X.env),(false,eval c X.env)]:=by rfl) :
 PI X tg (.Call (.Name "range" p) [a,b,c] [] pos) (cc3 ta):=by
 intro pins s σ H R I h
 refine Call_ (al3 I hg hm boot_range (PyProof.Rows.callWith_type1 (thn (ha pos pins s σ H _ I h) fun us s1 ⟨vs,H1,I1,r1,q1⟩=>?_) (by rw [hs,hs2]) (by rw [hs2]; rfl)))
 obtain ⟨i,j,e,⟨q1,q2,q3,q4⟩,q⟩:=q1
 subst e
 cases r1 with
 | cons r rr =>
   cases rr with
   | cons r' rr =>
     cases rr with
     | cons r'' rr =>
       cases rr
       obtain ⟨t,rfl⟩:=r
       obtain ⟨t',rfl⟩:=r'
       obtain ⟨t'',rfl⟩:=r''
       exact call_range_3 (by decide) (bg1 I1 q1 q2 q3 q4 q)
end
section
variable {σ:St} {H:Hp}{R:It→Hp→Prop}{ts:TA}
theorem cc4 (h:ts σ H fun vs H1=>∃ i j:Int,vs=[.int i,.int j,.int 3]∧(-(2 ^ 40)≤i∧i<2 ^ 40∧-(2 ^ 40)≤j∧j<2 ^ 40)∧R (Itr3 i (as5 i j)) H1):cc3 ts σ H R:=h
end
theorem bg3 {lo:Int}{n:Nat}{te:TE}{tt:TT}{caps:List Nat}{σ:St} {H:Hp}{Q:VK}(hz:n≤sizeLine) (Pv:Nat→List V→Hp→Prop) (h0:Pv 0 [] H) (hl:∀ i acc H,Pv i acc H→acc.length≤i)
 (hs:∀ i acc H,i<n→Pv i acc H→tt (some (.int (lo+i*3))::capV caps σ) H fun b H4=>if b=true then te (some (.int (lo+i*3))::capV caps σ) H4 fun y H5=>Pv (i+1) (acc++[y]) H5 else Pv (i+1) acc H4)
 (hd:∀ acc H,Pv n acc H→New H (.lst acc) Q):CompEnd (Itr3 lo n) (gName 0) tt te 1 caps σ H Q:=by
 refine b50 n hz Pv h0 hl (fun i acc H hi p=>hi) (fun acc H p=>Nat.le_refl _) ?_ hd
 rintro i x acc H1 H2 hi p ⟨rfl,rfl⟩
 exact hs i acc _ hi p
theorem cc5 {i:Nat}{t:TE}{f:Int→Int→Int}{σ:St} {H:Hp}{nn bb cc:St→Hp→Prop}{rr:VK}{a:Int}(e:σ[i]?=some (some (.int a))) (h:t σ H fun x H1=>∃ b:Int,x=.int b∧nn (σ.set i (some (.int (f a b)))) H1):tAug i t (ipI f) ⟨nn,rr,bb,cc⟩ σ H:=⟨_,e,by
 have h':t σ H fun y H1=>ipI f (.int a) y H1 fun z H2=>nn (σ.set i (some z)) H2:=by
  have:(fun x H1=>∃ b:Int,x=.int b∧nn (σ.set i (some (.int (f a b)))) H1)=fun y H1=>ipI f (.int a) y H1 fun z H2=>nn (σ.set i (some z)) H2:=by
   funext y H1
   apply propext
   constructor
   · rintro ⟨b,rfl,h⟩; exact ⟨a,b,rfl,rfl,h⟩
   · rintro ⟨a',b,e1,rfl,h⟩; cases e1; exact ⟨b,rfl,h⟩
  rw [← this]
  exact h
 exact h'⟩
section
variable {X:Cx}
end
section
variable {K:W.Frag}{H:Hp}{Q:VK}
end
section
variable {X:Cx}{e st:Expr}{te ts:TE}{p2 pos:Pos}
end
section
variable {prog:Program}{w:World}{z TI TO i1 i2 i3 l1 l2 l3:Addr}{xs ys us:Array Value}{st1 st2 st3:Nat→Heap→Prop}
end
section
variable {X:Cx}{elts:List Expr}{x1:Nat}{tpos:Pos}
end
def tTDisp (P:Params) (tk tv:TE):TE:=fun σ H Q=>∀ p o,H p=none→tk σ (upd H p o) fun y H1=>tv σ H1 fun v H2=>H2 p=some o∧∃ t,TK H2 t y∧∀ o2,DtAt P (upd H2 p o2) p [(t,v)]→Q (.ref p) (upd H2 p o2)
section
variable {X:Cx}{k v:Expr}{pos:Pos}{tk tv:TE}{P:Params}
theorem bp5 (hP:X.w.params=P) (hu:X.A.units+64<cLine) (hk:PE X k tk) (hv:PE X v tv):PE X (.Dict [some k] [v] pos) (tTDisp P tk tv):=by
 subst hP
 intro pins s σ H Q I h
 have hn:=I.hok.fresh (Nat.le_refl s.heap.objs.size)
 have I1:=I.laid (a:=s.heap.objs.size) (o:=DtO X.w.params s.heap.objs.size []) (h':=s.heap.push { cls:=.type "dict",data:=.dict #[] }) (t':=s.toks) (fun _ _ q=>gP _ q) (Nat.le_refl _) (aq1 (az2 s.heap X.w.params I.big))
 refine wpAny_Dict_any rfl rfl (by simp) (by simp) (pairTrees_cons_walk (thn (hk pins _ σ _ _ I1 (h _ _ hn)) fun u s1 ⟨y,H1,I1',ry,q1⟩=>thn (hv pins s1 σ H1 _ I1' q1) fun w2 s2 ⟨vv,H2,I2,rv,e,t,ht,q2⟩=>pairTrees_nil_walk ?_))
 unfold storeAll
 rw [List.forIn_cons]
 refine wB (wB (bf1 (m:=[]) (by omega) I2 (.of e) (fun x hx=>absurd hx (by simp)) (by simp) (by simp [sizeLine_eq]) ht ry rv fun s' I'=>wpAny_pure ?_))
 dsimp only
 rw [List.forIn_nil]
 refine wpAny_pure ⟨.ref _,_,I',rfl,q2 _ ?_⟩
 exact as2 (m:=[]) (.of e) (fun x hx=>absurd hx (by simp)) (by simp) ht
end
theorem by9 {P:Params}{σ:St} {H:Hp}{Q:VK}{tk tv:TE}(h:∀ p o,H p=none→tk σ (upd H p o) fun y H1=>tv σ H1 fun v H2=>H2 p=some o∧∃ t,TK H2 t y∧∀ o2,DtAt P (upd H2 p o2) p [(t,v)]→Q (.ref p) (upd H2 p o2)):tTDisp P tk tv σ H Q:=h
def Each {α β:Type}(R:α→β→Prop) (vs:List α) (xs:List β):Prop:=vs.length=xs.length∧∀ (j:Nat) (v:α) (x:β),vs[j]?=some v→xs[j]?=some x→R v x
section
variable {α β:Type}{R:α→β→Prop}{vs:List α}{xs:List β}
theorem Each.nil:Each R ([]:List α) ([]:List β):=⟨rfl,fun j v x h=>by simp at h⟩
theorem Each.mono {R':α→β→Prop}(h:Each R vs xs) (k:∀ v x,R v x→R' v x):Each R' vs xs:=⟨h.1,fun j v x h1 h2=>k v x (h.2 j v x h1 h2)⟩
theorem Each.append {ws:List α}{ys:List β}(h:Each R vs xs) (k:Each R ws ys):Each R (vs++ws) (xs++ys):=by
 refine ⟨by simp [h.1,k.1],fun j v x h1 h2=>?_⟩
 by_cases hj:j<vs.length
 · rw [List.getElem?_append_left hj] at h1
   rw [List.getElem?_append_left (by rw [← h.1]; exact hj)] at h2
   exact h.2 j v x h1 h2
 · rw [List.getElem?_append_right (by omega)] at h1
   rw [List.getElem?_append_right (by rw [← h.1]; omega),←h.1] at h2
   exact k.2 _ v x h1 h2
theorem Each.snoc {v:α}{x:β}(h:Each R vs xs) (k:R v x):Each R (vs++[v]) (xs++[x]):=h.append ⟨rfl,fun j w y h1 h2=>by
 cases j with
 | zero=>cases h1; cases h2; exact k
 | succ j=>simp at h1⟩
theorem Each.get {j:Nat}{x:β}(h:Each R vs xs) (k:xs[j]?=some x):∃ v,vs[j]?=some v∧R v x:=by
 have hj:j<vs.length:=by rw [h.1]; exact (gS k).1
 exact ⟨vs[j],gE hj,h.2 j _ x (gE hj) k⟩
end
abbrev RRow:=List Str×Nat
abbrev RRoom:=Bool×List RRow
section
variable {f:Nat→Option Nat}{rep rk:Nat→Nat}
end
def hF (d:Addr):List (Str×V):=putF "heads" (.ref d) []
abbrev Pr:=Nat×Nat
def pairT (p:Pr):Tr:=.tup [.int (p.1:Nat),.int (p.2:Nat)]
theorem pairT_inj {p q:Pr}:pairT p=pairT q↔p=q:=by
 constructor
 · intro h
   unfold pairT at h
   simp only [Tr.tup.injEq,List.cons.injEq,Tr.int.injEq,and_true] at h
   exact Prod.ext (by omega) (by omega)
 · intro h; rw [h]
section
variable {X:Cx}
end
section
variable {H:Hp}{Q:VK}
end
def TupK (K:W.Frag) (a:Addr) (xs:List V):Prop:=∃ (o:Obj) (its:Array Value) (n:Nat),K.lookup a=some o∧o.cls=.type "tuple"∧o.data=.seq its n∧its.size≤sizeLine∧Vals xs its.toList
theorem TupK.sq {K:W.Frag}{a:Addr}{xs:List V}(h:TupK K a xs) (H:Hp):SqT K H a xs:=.inr h
mutual
def Tr.AtK (K:W.Frag) (H:Hp):Tr→V→Prop
 | .non,v=>v=.non
 | .int i,v=>v=.int i
 | .str s,v=>v=.str s
 | .tup xs,v=>∃ a vs,v=.ref a∧(H a=some (.tup vs)∨TupK K a vs)∧Tr.AtsK K H xs vs
 | .lst _,_=>False
def Tr.AtsK (K:W.Frag) (H:Hp):List Tr→List V→Prop
 | [],vs=>vs=[]
 | x::xs,vs=>∃ v ws,vs=v::ws∧Tr.AtK K H x v∧Tr.AtsK K H xs ws
end
mutual
theorem Tr.At.toK (K:W.Frag) {H:Hp}:∀ {x:Tr}{v:V},x.At H v []→x.AtK K H v
 | .non,_,h=>by simp only [Tr.At] at h; simp only [Tr.AtK]; exact h.1
 | .int _,_,h=>by simp only [Tr.At] at h; simp only [Tr.AtK]; exact h.1
 | .str _,_,h=>by simp only [Tr.At] at h; simp only [Tr.AtK]; exact h.1
 | .tup xs,v,h=>by
   simp only [Tr.At] at h
   simp only [Tr.AtK]
   obtain ⟨a,vs,e,g,r⟩:=h
   exact ⟨a,vs,e,.inl g,Tr.Ats.toK K r⟩
 | .lst xs,v,h=>(av5 (h:=h)).elim
theorem Tr.Ats.toK (K:W.Frag) {H:Hp}:∀ {xs:List Tr}{vs:List V},Tr.Ats H xs vs []→Tr.AtsK K H xs vs
 | [],_,h=>by simp only [Tr.Ats] at h; simp only [Tr.AtsK]; exact h.1
 | x::xs,vs,h=>by
   simp only [Tr.Ats] at h
   simp only [Tr.AtsK]
   obtain ⟨v,ws,f,g,e,e2,a,b⟩:=h
   have hf:f=[]∧g=[]:=by simpa using e2.symm
   obtain ⟨rfl,rfl⟩:=hf
   exact ⟨v,ws,e,Tr.At.toK K a,Tr.Ats.toK K b⟩
end
section
variable {X:Cx}{pins:List (Addr×Obj)}{σ:St} {H:Hp}{s:Shared}
mutual
theorem Tr.AtK.isIn (I:Inv X pins σ H s):∀ {t:Tr}{v:V}{u:Value},t.AtK X.K H v→RelV v u→Tr.In s.heap t u
 | .non,v,u,h,r=>by
   simp only [Tr.AtK] at h
   subst h
   cases r
   exact rfl
 | .int z,v,u,h,r=>by
   simp only [Tr.AtK] at h
   subst h
   obtain ⟨t,rfl⟩:=r
   exact .inl ⟨t,rfl⟩
 | .str z,v,u,h,r=>by
   simp only [Tr.AtK] at h
   subst h
   obtain ⟨t,rfl⟩:=r
   exact ⟨t,rfl⟩
 | .lst _,v,u,h,r=>by simp only [Tr.AtK] at h
 | .tup ts,v,u,h,r=>by
   simp only [Tr.AtK] at h
   obtain ⟨a,vs,rfl,e1,c1⟩:=h
   cases r
   obtain ⟨is1,q1,p1,_⟩:=I.tuple (show SqT X.K H a vs from e1.elim SqT.of (fun z=>z.sq H))
   simp only [Tr.In]
   exact ⟨a,is1.toArray,rfl,p1,by simpa using Tr.AtsK.isIns I c1 q1⟩
theorem Tr.AtsK.isIns (I:Inv X pins σ H s):∀ {ts:List Tr}{vs:List V}{us:List Value},Tr.AtsK X.K H ts vs→Vals vs us→Tr.Ins s.heap ts us
 | [],vs,us,c,q=>by
   simp only [Tr.AtsK] at c
   subst c
   cases q
   exact rfl
 | t::ts,vs,us,c,q=>by
   simp only [Tr.AtsK] at c
   obtain ⟨v,vs,rfl,a1,b1⟩:=c
   cases q with
   | cons r1 r2 =>
     simp only [Tr.Ins]
     exact ⟨_,_,rfl,Tr.AtK.isIn I a1 r1,Tr.AtsK.isIns I b1 r2⟩
end
end
section
variable {X:Cx}{pins:List (Addr×Obj)}{σ:St} {H:Hp}{s:Shared}{a:Addr}{t:Tr}{y v z:V}{u r:Value}{A:Around}{E:Value→Shared→Prop}{kvs:List (Tr×V)}{m:List (Tr×V×V)}
end
section
variable {X:Cx}{o i e f value:Expr}{pos pos' apos cpos:Pos}{td ty tv tx:TE}{P:Params}
end
section
variable {K:W.Frag}{P:Params}{σ:St} {H:Hp}{Q:VK}{td ty tx tv:TE}
end
section
variable {prog:Program}{w:World}{A:Around}{E:Value→Shared→Prop}{s:Shared}
theorem ak7 {it l:Addr}{i:Nat}{items}{x:Value}{Q:Value→Shared→Prop}(hit:s.heap.IsTupleIter it l i)
 (hl:s.heap.IsTuple l items) (hx:items[i]?=some x)
 (hQ:∀ h',h'.IsTupleIter it l (i+1)→Heap.SameBut it s.heap h'→Q x { s with heap:=h' }) :
 wpAny (model prog w) A (Builtin.SmallTypes.nextOf (.ref it)) Q E s:=by
 obtain ⟨o,ho,hc,hd⟩:=id hit
 obtain ⟨ol,hol,_,nl,hdl⟩:=hl
 unfold Builtin.SmallTypes.nextOf
 refine wB (wpAny_callSpecial?_slot (name:=Str.ofString "__next__") hit.typeIs F.slot_tuple_iterator_next
  (wpAny_call_entry F.slot_tuple_iterator_next hit.typeIs F.entry_tuple_iterator_next ?_ (F.args_tuple_iterator_next_1 _)))
 show wpAny _ _ (field (.ref it) 0 >>= _) _ _ s
 refine wB (wpAny_field ho hd (x:=.ref l) rfl ?_)
 show wpAny _ _ (if (Value.ref l == Value.none)=true then _ else _) _ _ s
 rw [if_neg (show ¬ ((Value.ref l == Value.none)=true) from Bool.false_ne_true)]
 show wpAny _ _ (field (.ref it) 1 >>= _) _ _ s
 refine wB (wpAny_field ho hd (x:=.int i 0) rfl ?_)
 show wpAny _ _ (seqItems? (.ref l) >>= _) _ _ s
 refine wB (wpAny_seqItems hol hdl ?_)
 simp only [Int.toNat_natCast,hx]
 refine wB (wpAny_setField ho hd (by simp) (wpAny_pure ⟨x,rfl,wpAny_pure (hQ _ ?_ (Heap.SameBut.update ..))⟩))
 exact ⟨_,Heap.get?_update_self _ ho (Obj.isFreed_of_fields (Obj.data_mapFields hd _)),(Obj.cls_mapFields ..).trans hc,by
  rw [Obj.data_mapFields hd]; simp [rawInt]⟩
theorem al5 {it l:Addr}{i:Nat}{items}{Q:Value→Shared→Prop}(hh:A.handled=none)
 (hit:s.heap.IsTupleIter it l i) (hl:s.heap.IsTuple l items) (hx:items[i]?=none)
 (hE:∀ h' e,Heap.ExtBut it s.heap h'→(∃ o,h'.get? e=some o∧o.cls=.type "StopIteration")→E (.ref e) { s with heap:=h' }) :
 wpAny (model prog w) A (Builtin.SmallTypes.nextOf (.ref it)) Q E s:=by
 obtain ⟨o,ho,hc,hd⟩:=id hit
 obtain ⟨ol,hol,_,nl,hdl⟩:=hl
 unfold Builtin.SmallTypes.nextOf
 refine wB (wpAny_callSpecial?_slot (name:=Str.ofString "__next__") hit.typeIs F.slot_tuple_iterator_next
  (wpAny_call_entry F.slot_tuple_iterator_next hit.typeIs F.entry_tuple_iterator_next ?_ (F.args_tuple_iterator_next_1 _)))
 show wpAny _ _ (field (.ref it) 0 >>= _) _ _ s
 refine wB (wpAny_field ho hd (x:=.ref l) rfl ?_)
 show wpAny _ _ (if (Value.ref l == Value.none)=true then _ else _) _ _ s
 rw [if_neg (show ¬ ((Value.ref l == Value.none)=true) from Bool.false_ne_true)]
 show wpAny _ _ (field (.ref it) 1 >>= _) _ _ s
 refine wB (wpAny_field ho hd (x:=.int i 0) rfl ?_)
 show wpAny _ _ (seqItems? (.ref l) >>= _) _ _ s
 refine wB (wpAny_seqItems hol hdl ?_)
 simp only [Int.toNat_natCast,hx]
 refine wB (wpAny_rule (wB (wpAny_setField ho hd (by simp) ?_)))
 show wpAny _ _ (newExc (.type "StopIteration") [] >>= _) _ _ _
 refine wB ?_
 simp only [newExc,newTuple]
 refine wB (wpAny_newObj_type ?_ (by size_fits))
 refine wB (m:=firstArgMember _ _) (wpAny_of_eq (a:=Value.none) (by first | rfl | (simp only [firstArgMember]; rfl)) ?_)
 refine wpAny_newObj_type ?_ (by size_fits)
 simp only [raiseNew]
 refine wB (wpAny_handled ?_)
 first | rw [show A.in1.handled=none from hh] | rw [hh]
 refine wB (wpAny_pure (wpAny_throw ?_))
 exact hE _ _ (((Heap.SameBut.update ..).extBut.push _).push _) ⟨_,Heap.get?_push_size _ rfl,rfl⟩
end
theorem ak8 {h h':Heap}{a t:Addr}{i:Nat}(x:h.IsTupleIter a t i) (k:∀ o,h.get? a=some o→h'.get? a=some o):h'.IsTupleIter a t i:=let ⟨o,ho,r⟩:=x; ⟨o,k o ho,r⟩
section
variable {X:Cx}{elts:List Expr}{x1:Nat}{tpos:Pos}
end
theorem Tr.In.rcNeAt {s:Shared}{ts rs:List Tr}{A:Around}{u z:Value}(h1:Tr.In s.heap (.tup ts) u) (h2:Tr.In s.heap (.tup rs) z) (hu:A.units+(Tr.tup ts).h+(Tr.tup rs).h+2<cLine):SeqAt.RcNeAt A s u z (!decide (Tr.tup ts=Tr.tup rs)):=by
 simp only [Tr.In] at h1 h2
 obtain ⟨a,us,rfl,p1,c1⟩:=h1
 obtain ⟨b,vs,rfl,p2,c2⟩:=h2
 simp only [Tr.h] at hu
 have l1:=c1.len
 have l2:=c2.len
 simp only [Array.length_toList] at l1 l2
 have:=SeqAt.RcNeAt.tuples (A:=A) (s:=s) (e:=fun j=>decide (ts.getD j .non=rs.getD j .non)) p1 p2 (by omega) (fun j h1 h2=>by
  have:=Tr.Ins.eqAts (A:=A.in1) c1 c2 (by rw [aa1]; omega) j (by simpa using h1) (by simpa using h2)
  simpa using this)
 rw [l1,l2,bu3] at this
 rw [show decide (Tr.tup ts=Tr.tup rs)=decide (ts=rs) from Bool.eq_iff_iff.mpr (by simp)]
 exact this
def rNeFK (K:W.Frag):R2:=fun x y H Q=>∃ (ts rs:List Tr),(Tr.tup ts).AtK K H x∧(Tr.tup rs).AtK K H y∧(Tr.tup ts).h≤20∧(Tr.tup rs).h≤20∧Q (.bl (!decide (Tr.tup ts=Tr.tup rs))) H
theorem bp6 {X:Cx}(K:W.Frag) (hu:X.A.units+64<cLine) (hK:X.K=K:=by rfl):OpR X (compareOp .NotEq) (rNeFK K):=by
 subst hK
 intro pins s σ H x y v u Q I rx ry h
 obtain ⟨t,r,h1,h2,l1,l2,q⟩:=h
 exact (h1.isIn I rx).rcNeAt (h2.isIn I ry) (A:=X.A) (by omega) X.prog X.w X.xe (EP X pins σ Q) ⟨.bl _,H,I,rfl,q⟩
theorem cc6 {K:W.Frag}{H:Hp}{Q:VK}{x y:V}{ts rs:List Tr}(h1:(Tr.tup ts).AtK K H x) (h2:(Tr.tup rs).AtK K H y) (l1:(Tr.tup ts).h≤20) (l2:(Tr.tup rs).h≤20) (h:Q (.bl (!decide (Tr.tup ts=Tr.tup rs))) H):rNeFK K x y H Q:=⟨ts,rs,h1,h2,l1,l2,h⟩
theorem keepE {α:Type}{a:α}{P:α→Prop}(h:∀ x,a=x→P x):∀ x,a=x→P x:=h
def frzP (P:Params) (a:Addr) (m:List (Tr×V×V)) (o:Obj):Heap→Prop:=fun h=>DtP P a m h∧h.get? a=some o
structure FzAt (P:Params) (H:Hp) (a:Addr) (m:List (Tr×V×V)) (o:Obj):Prop where
 e:H a=some (.ext (frzP P a m o))
 k:∀ x∈m,x.1.At H x.2.1 []∧x.1.h≤8
 n:(m.map (·.1)).Nodup
theorem FzAt.dt {P:Params}{H:Hp}{a:Addr}{m:List (Tr×V×V)}{o:Obj}(h:FzAt P H a m o):DtAt P H a (m.map fun x=>(x.1,x.2.2)):=⟨m,rfl,⟨_,h.e,fun _ x=>x.1⟩,h.k,h.n⟩
theorem FzAt.mono {P:Params}{H H':Hp}{a:Addr}{m:List (Tr×V×V)}{o:Obj}(h:FzAt P H a m o) (k:Tups H H') (e:H' a=H a):FzAt P H' a m o:=⟨e.trans h.e,fun x hx=>⟨ae1 (h.k x hx).1 k,(h.k x hx).2⟩,h.n⟩
theorem FzAt.same {P:Params}{H H':Hp}{a:Addr}{m:List (Tr×V×V)}{o:Obj}(h:FzAt P H a m o) (s:Same H H'):FzAt P H' a m o:=h.mono s.tups (by rw [h.e]; exact s _ _ h.e)
def Itd (P:Params) (a:Addr) (m:List (Tr×V×V)) (o:Obj):It :=
 ⟨fun i H=>H a=some (.ext (frzP P a m o))∧i<m.length,fun i H x H'=>H'=H∧∃ k,m[i]?=some k∧x=k.2.1,fun i H=>H a=some (.ext (frzP P a m o))∧m.length≤i⟩
theorem bz0 {Pr:Program}{w:World}{K:W.Frag}{tg:Expr}{P:Params}{a it:Addr}{m:List (Tr×V×V)}{o:Obj}{es:Array DictEntry}{ep:Nat}(hx:o.ExactDict) (hd:o.data=.dict es ep) (hr:DtR P m es) :
 Turn Pr w K tg (Itd P a m o) [it] it (fun i h=>h.IsKeyIter it a i es.size ep) where
 mem:=by simp
 obj:=fun i h st b hb=>by
  have e:b=it:=by simpa using hb
  subst e
  obtain ⟨o,e,c,d⟩:=st
  exact ⟨o,e,fun v z=>by rw [d] at z; cases z⟩
 keep:=fun i h h' st k=>st.at fun o e=>k it (by simp) o e
 item:=by
  intro X hP hw hK hc i pins s σ H E I hf st hg
  subst hP hw hK
  have hD:RawD s.heap a es ep:=⟨o,(I.hok a _ hg.1).1.2,hx,hd⟩
  have hk:m[i]?=some (m[i]'hg.2):=gE hg.2
  obtain ⟨e,he,_,rk,_⟩:=hr.at_ i _ hk
  obtain ⟨f0,f1,f2,f3,f4,f5⟩:=hf it (by simp)
  refine b53 st hD he fun h' st' sb=>?_
  have I1:Inv X pins σ H { s with heap:=h' }:=I.turned (t':=s.toks) (fun b o hb e=>(sb.2 b hb).trans e) f0 f1 f3 f4 f5
  obtain ⟨oi,e',c,d⟩:=id st'
  exact ⟨_,rfl,bb4 (s:={ s with heap:=h' }) e' c d (by decide) ⟨(m[i]'hg.2).2.1,H,I1,rk,⟨rfl,_,hk,rfl⟩,st',fun b hb=>(hf b hb).1⟩⟩
 done:=by
  intro X hP hw hK hc i pins s σ H E I hf st hg
  subst hP hw hK
  have hD:RawD s.heap a es ep:=⟨o,(I.hok a _ hg.1).1.2,hx,hd⟩
  obtain ⟨f0,f1,f2,f3,f4,f5⟩:=hf it (by simp)
  exact bf2 (I.ok.hd hc) st hD (by rw [hr.len]; exact hg.2) fun h' eb=>⟨rfl,I.turned (t':=s.toks) (fun b o hb e=>eb b o hb e) f0 f1 f3 f4 f5⟩
 self:=fun _ _ _ _ _ st h=>wpAny_pyIter_keyiter st h
def iTd (P:Params) (tl:TE):TI:=fun σ H R=>tl σ H fun x H1=>∃ a kvs,x=.ref a∧DtAt P H1 a kvs∧∀ m o H',m.map (fun x=>(x.1,x.2.2))=kvs→(∀ b ob,b≠a→H1 b=some ob→H' b=some ob)→FzAt P H' a m o→R (Itd P a m o) H'
theorem bp7 {X:Cx}{P:Params}{tg l:Expr}{tl:TE}(hP:X.w.params=P) (hl:PE X l tl):PI X tg l (iTd P tl):=by
 subst hP
 intro pins s σ H R I h
 refine thn (hl pins s σ H _ I h) fun v s1 ⟨x,H1,I1,r1,q1⟩=>?_
 obtain ⟨a,kvs,rfl,⟨m,rfl,e2,e3,e4⟩,q⟩:=q1
 cases r1
 obtain ⟨o,es,ep,g1,g2,g3,g4,g5,z1,z2⟩:=ah0 I1 e2 e3 e4
 have nw:ObjOk X.prog X.w (upd H1 a (.ext (frzP X.w.params a m o))) s1.heap a (.ext (frzP X.w.params a m o)):=⟨⟨⟨z1,z2,o,es,ep,g1,g2,g3,g4⟩,g1⟩,⟨o,g1⟩,fun h1 h2 x k=>⟨DtP.one h1 h2 x.1 k,k _ x.2⟩⟩
 have I2:Inv X pins σ (upd H1 a (.ext (frzP X.w.params a m o))) s1:=I1.write (h':=s1.heap) (t':=s1.toks) (x:=a) (e:=a) e2.mut (.inl rfl) (fun b u _ e=>e) ⟨o,g1⟩ nw
 have ne:∀ b ob,b≠a→H1 b=some ob→upd H1 a (.ext (frzP X.w.params a m o)) b=some ob:=fun b ob hb e=>by rw [a09 hb]; exact e
 obtain ⟨φ,e2',_⟩:=e2
 have hF:FzAt X.w.params (upd H1 a (.ext (frzP X.w.params a m o))) a m o:=⟨a41,fun x hx=>⟨ae1 (e3 x hx).1 (ah1 e2'),(e3 x hx).2⟩,e4⟩
 refine b52 z2 ⟨o,g1,g2,g3⟩ ?_
 refine ⟨s1.heap.objs.size,[s1.heap.objs.size],_,_,_,rfl,I2.kept (t':=s1.toks) fun b o e=>gP _ e,bz0 (a:=a) g2 g3 g4,⟨_,Heap.get?_push_size _ rfl,rfl,rfl⟩,fun b hb=>?_,q m o _ rfl ne hF⟩
 have e:b=s1.heap.objs.size:=by simpa using hb
 subst e
 exact I2.fpOk (Nat.le_refl _) (I2.hok.fresh (Nat.le_refl _))
theorem i_td {P:Params}{tl:TE}{σ:St} {H:Hp}{R:It→Hp→Prop}(h:tl σ H fun x H1=>∃ a kvs,x=.ref a∧DtAt P H1 a kvs∧∀ m o H',m.map (fun x=>(x.1,x.2.2))=kvs→(∀ b ob,b≠a→H1 b=some ob→H' b=some ob)→FzAt P H' a m o→R (Itd P a m o) H'):iTd P tl σ H R:=h
theorem bg4 {P:Params}{a:Addr}{m:List (Tr×V×V)}{o:Obj}{g:TG}{tb:TS}{D:Ends}{σ:St} {H:Hp}(Pv:Nat→St→Hp→Prop) (h0:Pv 0 σ H) (hl:∀ i σ H,i≤m.length→Pv i σ H→H a=some (.ext (frzP P a m o)))
 (hs:∀ i x σ H,m[i]?=some x→Pv i σ H→g x.2.1 σ H fun σ1 H1=>tb { D with nx:=Pv (i+1),ct:=Pv (i+1),bk:=D.nx } σ1 H1) (hd:∀ σ H,Pv m.length σ H→D.nx σ H):ForEnd (Itd P a m o) g tb D σ H:=by
 refine ⟨fun i k σ H=>k=m.length - i∧i≤m.length∧Pv i σ H,⟨m.length,by simp,Nat.zero_le _,h0⟩,?_⟩
 rintro i k σ' H' ⟨rfl,hi,p⟩
 have hq:=hl i σ' H' hi p
 by_cases hlt:i<m.length
 · refine .inr ⟨⟨hq,hlt⟩,Pv (i+1),fun σ2 H2 p'=>⟨m.length - (i+1),by omega,rfl,hlt,p'⟩,fun v H2 y=>?_⟩
   obtain ⟨rfl,x,hx,rfl⟩:=y
   exact hs i x σ' _ hx p
 · have e:i=m.length:=by omega
   subst e
   exact .inl ⟨⟨hq,Nat.le_refl _⟩,hd σ' H' p⟩
theorem ch9 {P:Params}{a:Addr}{m:List (Tr×V×V)}{o:Obj}{te:TE}{tt:TT}{caps:List Nat}{σ:St} {H:Hp}{Q:VK}(hz:m.length≤sizeLine) (Pv:Nat→List V→Hp→Prop) (h0:Pv 0 [] H) (hl:∀ i acc H,Pv i acc H→acc.length≤i∧H a=some (.ext (frzP P a m o)))
 (hs:∀ i x acc H,m[i]?=some x→Pv i acc H→tt (some x.2.1::capV caps σ) H fun b H4=>if b=true then te (some x.2.1::capV caps σ) H4 fun y H5=>Pv (i+1) (acc++[y]) H5 else Pv (i+1) acc H4)
 (hd:∀ acc H,Pv m.length acc H→New H (.lst acc) Q):CompEnd (Itd P a m o) (gName 0) tt te 1 caps σ H Q:=by
 refine b50 m.length hz Pv h0 (fun i acc H p=>(hl i acc H p).1) (fun i acc H hi p=>⟨(hl i acc H p).2,hi⟩) (fun acc H p=>⟨(hl _ acc H p).2,Nat.le_refl _⟩) ?_ hd
 rintro i x acc H1 H2 hi p ⟨rfl,k,hk,rfl⟩
 exact hs i k acc _ hk p
section
variable {prog:Program}{w:World}{A:Around}{E:Value→Shared→Prop}{s:Shared}{d:Addr}{es:Array DictEntry}{ep:Nat}
theorem bz1 {Q:Value→Shared→Prop}(lo:(d == sysModules)=false) (x:RawD s.heap d es ep) (hz:(es.size:Int)<2 ^ 63) (h:Q (.int es.size (s.toks+1)) { s with toks:=s.toks+1+1 }):wpAny (model prog w) A (call (.builtin "len") [.ref d]) Q E s:=by
 have T:=x.ty
 obtain ⟨o,e1,e2,e3⟩:=x
 refine Calls.call_function_entry kind_len plain_len entry_len (args_len1 _) ?_
 unfold Builtin.«len»
 refine wB (m:=oneArg "len" _) (wpAny_pure ?_)
 refine wB (m:=callSpecial? (.ref d) (Str.ofString "__len__")) (wpAny_callSpecial?_slot (name:=Str.ofString "__len__") T F.slot_dict_len (wpAny_call_entry F.slot_dict_len T F.entry_dict_len ?_ (F.args_dict_len_1 _)))
 unfold Builtin.«dict.__len__»
 show wpAny _ _ (dictSize d >>= _) _ _ s
 unfold dictSize
 refine wB (wB (wpAny_dictEntries e1 e3 (wpAny_pure ?_)))
 show wpAny _ _ (Builtin.Dict.pendingCount d >>= _) _ _ s
 refine wB (wpAny_pendingCount_other lo ?_)
 show wpAny _ _ (retInt _) _ _ s
 unfold retInt
 refine wB (wpAny_mkInt (wpAny_pure ⟨_,rfl,?_⟩))
 rw [show ((es.size:Nat):Int)+((0:Nat):Int)=((es.size:Nat):Int) by simp]
 refine wB (wpAny_holding (wpAny_pure ?_))
 refine wB (wpAny_letGo ?_)
 show wpAny _ _ (if ((es.size:Nat):Int)<0 then _ else _) _ _ _
 rw [if_neg (by omega)]
 show wpAny _ _ (if ((es.size:Nat):Int) ≥ 2 ^ 63 then _ else _) _ _ _
 rw [if_neg (by omega)]
 exact wB (wpAny_mkInt (wpAny_pure ⟨_,rfl,h⟩))
end
def rLenT (P:Params):List V→Hp→VK→Prop:=fun vs H Q=>∃ a kvs,vs=[V.ref a]∧DtAt P H a kvs∧Q (.int (kvs.length:Nat)) H
theorem az6 {X:Cx}{P:Params}(hP:X.w.params=P):CallR X (.builtin "len") (rLenT P):=by
 subst hP
 intro pins s σ H xs us Q I r h
 obtain ⟨a,kvs,rfl,⟨m,rfl,e2,e3,e4⟩,q⟩:=h
 cases r with
 | cons r1 r2 =>
 cases r2
 cases r1
 obtain ⟨o,es,ep,g1,g2,g3,g4,g5,z1,z2⟩:=ah0 I e2 e3 e4
 have hsz:es.size=m.length:=g4.len
 refine bz1 z2 ⟨o,g1,g2,g3⟩ (by rw [hsz]; rw [sizeLine_eq] at z1; omega) ?_
 rw [hsz]
 exact ⟨.int (m.length:Nat),H,I.tok _,⟨_,rfl⟩,by rw [gL] at q; exact q⟩
def rExtendT (K:W.Frag):V→List V→Hp→VK→Prop:=fun x vs H Q=>∃ l b xs zs,x=.ref l∧vs=[.ref b]∧H l=some (.lst xs)∧SqT K H b zs∧xs.length+zs.length≤sizeLine∧Q .non (upd H l (.lst (xs++zs)))
theorem az7 {X:Cx}(K:W.Frag) (hK:X.K=K:=by rfl):MtM X "list.extend" (rExtendT K):=by
 subst hK
 intro pins s σ H x vs v us Q I rx rv h
 obtain ⟨l,b,xs,zs,rfl,rfl,hH,hB,hz,q⟩:=h
 cases rx
 obtain ⟨u,rfl,ru⟩:=rv.one
 cases ru
 obtain ⟨z,its,n,r,hl,e⟩:=I.lstM hH
 obtain ⟨its2,r2,⟨ob,eb,cb,n2,db⟩,z2⟩:=I.tuple hB
 have hl2:=r2.length
 have hsz:its.toArray.size+its2.toArray.size≤sizeLine:=by rw [List.size_toArray,List.size_toArray]; omega
 have hne:l≠b:=fun z=>by
  subst z
  rw [e] at eb
  injection eb with eb
  rw [← eb] at cb
  exact absurd (show Value.type "list"=Value.type "tuple" from cb) (by decide)
 have h1:Builtin.List.listSameRef (.ref l) (.ref b)=false:=by simp [Builtin.List.listSameRef,hne]
 refine wpAny_call_entry F.slot_list_extend ⟨_,e,rfl⟩ F.entry_list_extend ?_ (F.args_list_extend_2 _ _)
 unfold Builtin.«list.extend»
 show wpAny _ _ (Builtin.List.listExtendWith (.ref l) (.ref b) .none) _ _ s
 unfold Builtin.List.listExtendWith
 refine wB (wpAny_typeOf (T:="tuple") ⟨ob,eb,cb⟩ ?_)
 simp only [h1,show (Value.type "tuple" == Value.type "list")=false by decide,show (Value.type "tuple" == Value.type "tuple")=true by decide,Bool.or_false,Bool.or_true,if_true]
 refine wB (listItems_at eb db ?_)
 refine wB (listItems_at e rfl ?_)
 have hlong:¬ (!its.toArray.isEmpty && Builtin.List.listTooLong (its.toArray.size+its2.toArray.size))=true:=by
  rw [notLongL hsz,Bool.and_false]
  exact Bool.false_ne_true
 rw [if_neg hlong]
 show wpAny _ _ (updateSeq l (·++its2.toArray) >>= _) _ _ s
 refine wB (wpAny_updateSeq (hz:=by rw [List.size_toArray]; omega) (_hz':=by rw [Array.size_append]; omega) e rfl ?_)
 refine wpAny_pure ⟨_,rfl,.non,_,I.lset (its':=its++its2) (t':=s.toks) hH e (by simp) (r.append r2) (by rw [List.length_append]; omega),rfl,q⟩
section
variable {prog:Program}{w:World}{A:Around}{E:Value→Shared→Prop}{s:Shared}{d it:Addr}{es:Array DictEntry}{ep i:Nat}
theorem bg5 {Q:Option Value→Shared→Prop}{e:DictEntry}(hit:s.heap.IsValIter it d i es.size ep) (x:RawD s.heap d es ep) (he:es[i]?=some e)
 (q:∀ h',h'.IsValIter it d (i+1) es.size ep→Heap.SameBut it s.heap h'→Q (some e.val) { s with heap:=h' }):wpAny (model prog w) A (pyNext (.ref it)) Q E s:=by
 have T:=hit.typeIs
 obtain ⟨o,ho,hc,hd⟩:=id hit
 obtain ⟨od,g1,g2,g3⟩:=x
 have hlt:i<es.size:=(Array.getElem?_eq_some_iff.mp he).1
 unfold pyNext
 refine wB (wpAny_attempt (wpAny_callSpecial?_slot (name:=Str.ofString "__next__") T F.slot_dict_valueiterator_next (wpAny_call_entry F.slot_dict_valueiterator_next T F.entry_dict_valueiterator_next ?_ (F.args_dict_valueiterator_next_1 _))))
 refine wB ((wpAny_pure) (wB (wB ?_)))
 first | refine wB (wpAny_typeNameOfWhole_valiter T (wpAny_pure ?_)) | refine wB (wpAny_typeNameOf_valiter T (wpAny_pure ?_))
 refine wB (wpAny_fieldsOf ho (hd) ?_)
 simp only [show Builtin.Dict_items.ownsTuple "dict_valueiterator"=false by decide,Bool.false_eq_true,if_false]
 show wpAny _ A.in1 (if (Value.ref d == Value.none)=true then _ else _) _ _ s
 rw [if_neg (fun z:(Value.ref d == Value.none)=true=>Bool.false_ne_true z)]
 refine wB ((wpAny_pure) (wB (wpAny_dictEntries g1 g3 ?_)))
 rw [if_neg (by simp)]
 refine wB ((wpAny_pure) (wB (wpAny_dictEpoch g1 g3 ?_)))
 rw [if_neg (by simp)]
 refine wpAny_pure ?_
 simp only [show ¬ ((i:Int)<0) by omega,if_false,Int.toNat_natCast,he]
 refine wB ?_
 first | refine wB (wpAny_typeNameOfWhole_valiter T (wpAny_pure ?_)) | refine wB (wpAny_typeNameOf_valiter T (wpAny_pure ?_))
 refine wB (wpAny_isOneOf_valiter T ?_)
 show wpAny _ A.in1 (setField (.ref it) 1 (rawInt ((i:Int)+1)) >>= _) _ _ s
 refine wB (wpAny_setField ho (hd) (by simp) ?_)
 have hit2:(s.heap.update it (Obj.mapFields (·.setIfInBounds 1 (rawInt ((i:Int)+1))))).IsValIter it d (i+1) es.size ep :=
  ⟨_,Heap.get?_update_self _ ho (Obj.isFreed_of_fields (Obj.data_mapFields hd _)),(Obj.cls_mapFields ..).trans hc,by rw [Obj.data_mapFields hd]; simp [rawInt]⟩
 refine wB (wpAny_holding (wB (wpAny_isOneOf_valiter (s:={ s with heap:=s.heap.update it (Obj.mapFields (·.setIfInBounds 1 (rawInt ((i:Int)+1)))) }) hit2.typeIs ?_)))
 rw [if_neg (by decide)]
 refine wB (wpAny_isOneOf_valiter (s:={ s with heap:=s.heap.update it (Obj.mapFields (·.setIfInBounds 1 (rawInt ((i:Int)+1)))) }) hit2.typeIs ?_)
 show wpAny _ A.in1 (pure e.val) _ _ _
 exact wpAny_pure (wpAny_pure ⟨_,rfl,wpAny_pure (q _ hit2 (Heap.SameBut.update ..))⟩)
theorem bp8 {Q:Option Value→Shared→Prop}(hh:A.handled=none) (hit:s.heap.IsValIter it d i es.size ep) (x:RawD s.heap d es ep) (he:es.size≤i)
 (q:∀ h',Heap.ExtBut it s.heap h'→Q none { s with heap:=h' }):wpAny (model prog w) A (pyNext (.ref it)) Q E s:=by
 have T:=hit.typeIs
 obtain ⟨o,ho,hc,hd⟩:=id hit
 obtain ⟨od,g1,g2,g3⟩:=x
 unfold pyNext
 refine wB (wpAny_attempt (wpAny_callSpecial?_slot (name:=Str.ofString "__next__") T F.slot_dict_valueiterator_next (wpAny_call_entry F.slot_dict_valueiterator_next T F.entry_dict_valueiterator_next ?_ (F.args_dict_valueiterator_next_1 _))))
 refine wB ((wpAny_pure) (wB (wB ?_)))
 first | refine wB (wpAny_typeNameOfWhole_valiter T (wpAny_pure ?_)) | refine wB (wpAny_typeNameOf_valiter T (wpAny_pure ?_))
 refine wB (wpAny_fieldsOf ho (hd) ?_)
 simp only [show Builtin.Dict_items.ownsTuple "dict_valueiterator"=false by decide,Bool.false_eq_true,if_false]
 show wpAny _ A.in1 (if (Value.ref d == Value.none)=true then _ else _) _ _ s
 rw [if_neg (fun z:(Value.ref d == Value.none)=true=>Bool.false_ne_true z)]
 refine wB ((wpAny_pure) (wB (wpAny_dictEntries g1 g3 ?_)))
 rw [if_neg (by simp)]
 refine wB ((wpAny_pure) (wB (wpAny_dictEpoch g1 g3 ?_)))
 rw [if_neg (by simp)]
 refine wpAny_pure ?_
 simp only [show ¬ ((i:Int)<0) by omega,if_false,Int.toNat_natCast,Array.getElem?_eq_none he]
 refine wB ?_
 first | refine wB (wpAny_typeNameOfWhole_valiter T (wpAny_pure ?_)) | refine wB (wpAny_typeNameOf_valiter T (wpAny_pure ?_))
 show wpAny _ A.in1 (setField (.ref it) 0 .none >>= _) _ _ s
 refine wB (wpAny_setField ho (hd) (by simp) ?_)
 show wpAny _ A.in1 (newExc (.type "StopIteration") [] >>= _) _ _ _
 refine wB ?_
 simp only [newExc,newTuple]
 refine wB (wpAny_newObj_type ?_ (by size_fits))
 refine wB (m:=firstArgMember _ _) (wpAny_of_eq (a:=Value.none) (by first | rfl | (simp only [firstArgMember]; rfl)) (wpAny_newObj_type ?_ (by size_fits)))
 simp only [raiseNew]
 refine wB (wpAny_handled ?_)
 rw [show A.in1.handled=none from hh]
 refine wB ((wpAny_pure) ((wpAny_throw) ?_))
 refine wB (wpAny_isInstance (b:=true) (T:="StopIteration") ⟨_,Heap.get?_push_size _ rfl,rfl⟩ isSubtype_stop ?_)
 exact wpAny_pure (q _ (((Heap.SameBut.update ..).extBut.push _).push _))
theorem b86 (hh:A.handled=none) (hne:d≠it):Walks prog w A it [it,d] [it] es.size (fun i v=>∃ e,es[i]?=some e∧v=e.val) (fun i h=>h.IsValIter it d i es.size ep∧RawD h d es ep) where
 sub:=fun b hb=>by simp at hb; simp [hb]
 frame:=fun _ _ _ st hk=>⟨st.1.at fun o e=>hk it (by simp) o e,st.2.keep fun o e=>hk d (by simp) o e⟩
 item:=fun i s Q E hi st hQ=>bg5 st.1 st.2 (Array.getElem?_eq_getElem hi) fun h' hit' hs=>hQ _ h' s.toks ⟨_,Array.getElem?_eq_getElem hi,rfl⟩ ⟨hit',st.2.keep fun o e=>hs.extBut d o hne e⟩ fun b o hb e=>hs.extBut b o (fun h=>hb (by simp [h])) e
 done:=fun s Q E st hQ=>bp8 hh st.1 st.2 (Nat.le_refl _) fun h' he'=>hQ h' s.toks fun b o hb e=>he' b o (fun h=>hb (by simp [h])) e
 self:=fun _ _ _ _ st hQ=>wpAny_pyIter_valiter st.1 hQ
end
def ViewAt (H:Hp) (p d:Addr):Prop:=H p=some (.ext fun h=>h.IsValuesView p d)
def tTVals (P:Params) (td:TE):TE:=fun σ H Q=>td σ H fun x H1=>∃ a kvs,x=.ref a∧DtAt P H1 a kvs∧∀ p H',H1 p=none→Same H1 H'→ViewAt H' p a→Q (.ref p) H'
theorem bz2 {P:Params}{td:TE}{σ:St} {H:Hp}{Q:VK}(h:td σ H fun x H1=>∃ a kvs,x=.ref a∧DtAt P H1 a kvs∧∀ p H',H1 p=none→Same H1 H'→ViewAt H' p a→Q (.ref p) H'):tTVals P td σ H Q:=h
section
variable {X:Cx}{P:Params}{o:Expr}{td:TE}{apos cpos:Pos}
theorem bp9 (hP:X.w.params=P) (ho:PE X o td) (hbase:attributeBase o "values" X.env (eval o X.env)=eval o X.env:=by rfl) (hline:(apos.endLine == cpos.line)=true:=by rfl):PE X (.Call (.Attribute o "values" apos) [] [] cpos) (tTVals P td):=by
 subst hP
 intro pins s σ H Q I h
 refine wpAny_Call_method0_late hbase hline (thn (ho pins s σ H _ I h) fun v s1 ⟨x,H1,I1,r1,a,kvs,ex,g1,q1⟩=>?_)
 subst ex
 obtain rfl:v=Value.ref a:=r1
 obtain ⟨es,ep,x,lo,_⟩:=aj6 I1 g1
 refine ⟨"dict","dict.values",PySem.F.plainAttrs_dict,PySem.F.slot_dict_values,PySem.F.type_dict_values,x.ty,(fun b q=>by cases q; obtain ⟨ob,h1,h2,_⟩:=x; exact ⟨ob,h1,h2.2.1⟩),Calls.callWith_builtin rfl (PySem.evalArgs_none ?_)⟩
 refine wpAny_call_entry PySem.F.slot_dict_values x.ty PySem.F.entry_dict_values ?_ (PySem.F.args_dict_values_1 _)
 unfold Builtin.«dict.values»
 refine wB ?_
 unfold Builtin.Dict.noArgs
 refine wB (wpAny_notOrdered_dict x.ty ?_)
 show wpAny _ _ (pure a) _ _ s1
 refine wpAny_pure ?_
 show wpAny _ _ (Builtin.Dict.showsAll a >>= _) _ _ s1
 unfold Builtin.Dict.showsAll
 rw [if_neg (by rw [lo]; exact Bool.false_ne_true)]
 refine wB (wpAny_pure (wB (wpAny_newObj_type (wpAny_pure ⟨_,rfl,?_⟩))))
 have hp:=I1.hok.fresh (Nat.le_refl s1.heap.objs.size)
 have vw:(s1.heap.push { cls:=.type "dict_values",data:=.fields #[.ref a] }).IsValuesView s1.heap.objs.size a:=⟨_,Heap.get?_push_size _ rfl,rfl,rfl⟩
 have I2:=I1.laid (t':=s1.toks) (h':=s1.heap.push { cls:=.type "dict_values",data:=.fields #[.ref a] }) (a:=s1.heap.objs.size) (o:=.ext fun h=>h.IsValuesView s1.heap.objs.size a) (fun b u e=>gP _ e) (Nat.le_refl _) ⟨vw,let ⟨ob,e,_⟩:=vw; ⟨ob,e⟩,fun h1 h2 ⟨ob,e,r⟩ k=>⟨ob,k _ e,r⟩⟩
 exact ⟨.ref s1.heap.objs.size,_,I2,rfl,q1 _ _ hp (Same.new hp) a41⟩
end
section
variable {prog:Program}{w:World}{A:Around}{E:Value→Shared→Prop}{s:Shared}{d v:Addr}{es:Array DictEntry}{ep:Nat}
theorem bg6 {Q:Value→Shared→Prop}(hv:s.heap.IsValuesView v d) (x:RawD s.heap d es ep) (q:Q (.ref s.heap.objs.size) { s with heap:=s.heap.push { cls:=.type "dict_valueiterator",data:=.fields #[.ref d,.int 0 0,.int es.size 0,.int ep 0] } }):wpAny (model prog w) A (pyIter (.ref v)) Q E s:=by
 obtain ⟨ov,hov,hcv,hdv⟩:=id hv
 obtain ⟨o,ho,hc,hdat⟩:=id x
 refine wpAny_pyIter_slot hv.typeIs F.slot_dict_values_iter (wpAny_call_entry F.slot_dict_values_iter hv.typeIs F.entry_dict_values_iter ?_ (F.args_dict_values_iter_1 _))
 unfold Builtin.«dict_values.__iter__»
 refine wB (wpAny_pure (wB ?_))
 unfold Builtin.Dict_items.dictOf
 refine wB (wpAny_field hov hdv (x:=.ref d) rfl (wpAny_pure (wB ?_)))
 unfold Builtin.Dict_items.newIterator
 refine wB (wpAny_dictEntries ho hdat (wB (wpAny_dictEpoch ho hdat ?_)))
 simp only [show Builtin.Dict_items.ownsTuple "dict_valueiterator"=false by decide,Bool.false_eq_true,if_false]
 refine wpAny_newObj_type (wpAny_pure ⟨_,rfl,"dict_valueiterator",_,⟨_,Heap.get?_push_size _ rfl,rfl⟩,F.slot_dict_valueiterator_next.lookup,?_⟩)
 simpa [rawInt] using q
end
def rMaxV (P:Params):List V→Hp→VK→Prop:=fun vs H Q=>∃ (p d:Addr) (kvs:List (Tr×V)) (ns:List Int),vs=[V.ref p]∧ViewAt H p d∧DtAt P H d kvs∧kvs.map (·.2)=ns.map V.int∧0<ns.length∧∀ b,b∈ns→(∀ x∈ns,x≤b)→Q (.int b) H
section
variable {X:Cx}{P:Params}
theorem bz3 (hP:X.w.params=P) (hc:X.calm=true):CallR X (.builtin "max") (rMaxV P):=by
 subst hP
 intro pins s σ H xs us Q I r h
 obtain ⟨p,d,kvs,ns,rfl,hv,⟨m,rfl,e2,e3,e4⟩,hns,hpos,q⟩:=h
 cases r with
 | cons r1 r2 =>
 cases r2
 cases r1
 obtain ⟨o,es,ep,q1,q2,q3,q4,q5,z1,z2⟩:=ah0 I e2 e3 e4
 have vw:s.heap.IsValuesView p d:=(I.hok p _ hv).1
 have lt:d<s.heap.objs.size:=Heap.lt_size q1
 have ml:ns.length=m.length:=by
  have:=congrArg List.length hns
  simpa using this.symm
 have hval:∀ (i:Nat) (v:Value),(∃ e,es[i]?=some e∧v=e.val)→∃ t,v=.int (ns.getD i 0) t:=by
  rintro i v ⟨e,he,rfl⟩
  have hi:i<m.length:=by rw [← q4.len]; exact (Array.getElem?_eq_some_iff.mp he).1
  obtain ⟨en,f1,f2,f3,f4⟩:=q4.at_ i m[i] (gE hi)
  rw [he] at f1
  cases f1
  have hm:(m.map fun x=>(x.1,x.2.2)).map (·.2)=m.map (·.2.2):=by rw [List.map_map]; rfl
  have h2:(ns.map V.int)[i]?=some m[i].2.2:=by rw [← hns,hm,gM,gE hi]; rfl
  rw [gM,gE (by omega)] at h2
  have h3:V.int (ns[i]'(by omega))=m[i].2.2:=by injection h2
  rw [← h3] at f4
  obtain ⟨t,ht⟩:=f4
  exact ⟨t,by rw [ht,List.getD_eq_getElem?_getD,gE (by omega)]; rfl⟩
 refine call_max_walkS (bg6 vw ⟨o,q1,q2,q3⟩ ⟨_,_,_,_,_,_,_,_,rfl,(b86 (A:=X.A.in1) (es:=es) (ep:=ep) (I.ok.hd hc) (Nat.ne_of_lt lt)).toS,⟨⟨_,Heap.get?_push_size _ rfl,rfl,rfl⟩,o,gP _ q1,q2,q3⟩,fun b hb=>?_,by rw [q4.len,←ml]; exact hpos,CmpOf.ints_gt (fun i=>ns.getD i 0) hval,fun v s' hP hm=>?_⟩)
 · simp only [List.mem_cons,List.not_mem_nil,or_false] at hb
   rcases hb with rfl | rfl
   · rw [Heap.size_push]; exact Nat.lt_succ_self _
   · rw [Heap.size_push]; exact Nat.lt_succ_of_lt lt
 · obtain ⟨t,rfl⟩:=hval _ _ hP
   obtain ⟨b1,b2⟩:=argBest_gt (fun i=>ns.getD i 0) (es.size - 1)
   have bl:argBest (fun i j=>decide (ns.getD i 0 > ns.getD j 0)) (es.size - 1)<ns.length:=by rw [q4.len] at b1 ⊢; omega
   rw [Moved.eq_with hm]
   refine ⟨.int _,H,I.kept (t':=s'.toks) fun b ob e=>hm.heap b ob (fun z=>?_) (gP _ e),⟨t,rfl⟩,q _ ?_ fun x hx=>?_⟩
   · exact absurd (Heap.lt_size e) (by rw [gG z]; exact Nat.lt_irrefl _)
   · rw [List.getD_eq_getElem?_getD,gE bl]
     exact List.getElem_mem _
   · obtain ⟨j,hj,rfl⟩:=List.mem_iff_getElem.mp hx
     have:=b2 j (by rw [q4.len]; omega)
     rw [List.getD_eq_getElem?_getD (l:=ns) (i:=j),gE hj] at this
     exact this
end
theorem av6 {prog:Program}{w:World}{A:Around}(hh:A.handled=none) (it l:Addr) (hne:l≠it) (items:Array Value) :
 Draws prog w A it [it,l] items.size (fun i v=>items[i]?=some v) (fun i h=>h.IsTupleIter it l i∧h.IsTuple l items) where
 live:=fun _ _ st=>let ⟨o,ho,_⟩:=st.1; ⟨o,ho⟩
 frame:=fun _ _ _ st hk=>⟨ak8 st.1 fun o e=>hk it (by simp) o e,let ⟨o,e,r⟩:=st.2; ⟨o,hk l (by simp) o e,r⟩⟩
 item:=fun i s Q E hi st hQ=>by
  refine ak7 st.1 st.2 (x:=items[i]) (by simp [hi]) fun h' hit' hs'=>?_
  exact hQ _ h' s.toks (by simp [hi]) ⟨hit',let ⟨o,e,r⟩:=st.2; ⟨o,hs'.extBut l o hne e,r⟩⟩ hs'
 done:=fun s Q E st hE=>al5 hh st.1 st.2 (by simp) hE
open AutoSeq1 (wpAny_loadPart')
def tupIt (l:Addr):Obj:={ cls:=.type "tuple_iterator",data:=.fields #[.ref l,.int 0 0] }
def enObj (it:Addr):Obj:={ cls:=.type "enumerate",data:=.fields #[.none,.bool false,.ref it,rawInt 0,.none,.none] }
theorem bg7 (l:Addr) (items:Array Value) (n:Nat) (dct:Option Addr) (sl:Array (Option Value)) :
 Meets (Builtin.«enumerate.__new__» ⟨[.type "enumerate",.ref l],[]⟩) (fun _ R s=>s.heap.get? l=some { cls:=.type "tuple",dict:=dct,data:=.seq items n,slots:=sl } ∧
  R (.ok (.ret (.ref (s.heap.push (tupIt l)).objs.size))) { s with heap:=(s.heap.push (tupIt l)).push (enObj s.heap.objs.size) }) :=
 .of_wp fun prog w A R s h=>by
  obtain ⟨hp,g,d,tk,os⟩:=s
  obtain ⟨hl,h⟩:=h
  have hsub:=sub_enumerate
  have hL:Heap.IsTuple (Shared.heap ⟨hp,g,d,tk,os⟩) l items:=⟨_,hl,rfl,n,rfl⟩
  wp_walk using wpAny_loadPart' hl
  refine wpAny_stack_any fun st=>wpAny_pure ?_
  split
  · rename_i c _ _ _ _ _
    cases (c == Value.type "enumerate")
    · wp_walk using wpAny_loadPart' hl,wpAny_pyIter_tuple hL
      exact ⟨_,rfl,h⟩
    · wp_walk using wpAny_loadPart' hl,wpAny_pyIter_tuple hL
      exact ⟨_,rfl,h⟩
  · wp_walk using wpAny_loadPart' hl,wpAny_pyIter_tuple hL
    exact ⟨_,rfl,h⟩
theorem b87 {prog:Program}{w:World}{A:Around}{E:Value→Shared→Prop}{s:Shared}{l:Addr}{items:Array Value}{Q:Value→Shared→Prop}(hL:s.heap.IsTuple l items)
 (h:∀ h',IsEnum h' (s.heap.objs.size+1) s.heap.objs.size 0 .none→h'.IsTupleIter s.heap.objs.size l 0→(∀ b o,s.heap.get? b=some o→h'.get? b=some o)→Q (.ref (s.heap.objs.size+1)) { s with heap:=h' }) :
 wpAny (model prog w) A (call (.type "enumerate") [.ref l]) Q E s:=by
 obtain ⟨⟨c,dct,dt,sl⟩,hl,hc,n,hd⟩:=hL
 replace hc:c=.type "tuple":=hc
 replace hd:dt=.seq items n:=hd
 subst hc hd
 refine callType_new F.called_enumerate (by decide) (F.typeCall_enumerate_1 _) (F.newCall_enumerate_1 _) (fun obj=>F.args_object_init_2 obj _) F.entry_enumerate_new (bg7 l items n dct sl) ⟨hl,?_⟩
 have hz:(s.heap.push (tupIt l)).objs.size=s.heap.objs.size+1:=Heap.size_push ..
 show _∧_
 rw [hz]
 have he:IsEnum ((s.heap.push (tupIt l)).push (enObj s.heap.objs.size)) (s.heap.objs.size+1) s.heap.objs.size 0 .none:=by
  have:=Heap.get?_push_size (s.heap.push (tupIt l)) (o:=enObj s.heap.objs.size) rfl
  rw [hz] at this
  exact this
 exact ⟨⟨_,he,rfl⟩,h _ he ⟨_,gP _ (Heap.get?_push_size _ rfl),rfl,rfl⟩ fun b o x=>gP _ (gP _ x)⟩
def IteT (K:W.Frag) (a:Addr):It :=
 ⟨fun i H=>∃ xs x,SqT K H a xs∧xs[i]?=some x,fun i H v H'=>∃ p y,v=.ref p∧H p=none∧Same H H'∧H' p=some (.tup [.int (i:Nat),y])∧∀ xs,SqT K H a xs→xs[i]?=some y,fun i H=>∃ xs,SqT K H a xs∧xs.length=i⟩
theorem b88 {P:Program}{w:World}{K:W.Frag}{elts:List Expr}{x1:Nat}{pos:Pos}(a e it:Addr) (hne:e≠it) :
 Turn P w K (.Tuple elts x1 pos) (IteT K a) [e,it] e (fun i h=>(∃ old,IsEnum h e it (i:Nat) old)∧h.IsTupleIter it a i) where
 mem:=by simp
 obj:=fun i h st b hb=>by
  obtain ⟨⟨old,he⟩,o,e2,c,d⟩:=st
  rcases (by simpa using hb:b=e∨b=it) with rfl | rfl
  · exact ⟨_,he,fun v z=>by cases z⟩
  · exact ⟨o,e2,fun v z=>by rw [d] at z; cases z⟩
 keep:=fun i h h' st k=>⟨let ⟨old,he⟩:=st.1; ⟨old,k e (by simp) _ he⟩,ak8 st.2 fun o x=>k it (by simp) o x⟩
 item:=by
  intro X hP hw hK hc i pins s σ H E I hf st hg
  subst hP hw hK
  obtain ⟨xs,x,hq,hx⟩:=hg
  obtain ⟨its,rv,⟨ob,p1,p2,n,p3⟩,hz⟩:=I.tuple hq
  obtain ⟨u,hu,ru⟩:=rv.get hx
  obtain ⟨⟨old,he⟩,hit⟩:=st
  have helt:e<s.heap.objs.size:=Heap.lt_size he
  have hilt:it<s.heap.objs.size:=by obtain ⟨_,q,_⟩:=hit; exact Heap.lt_size q
  have nea:e≠a:=fun z=>by
   subst z
   have he':=he
   unfold IsEnum at he'
   rw [p1] at he'
   injection he' with he'
   rw [he'] at p2
   exact absurd (show Value.type "enumerate"=Value.type "tuple" from p2) (by decide)
  have nia:a≠it:=fun z=>by
   subst z
   obtain ⟨o2,g1,g2,_⟩:=hit
   rw [p1] at g1
   cases g1
   rw [p2] at g2
   exact absurd g2 (by decide)
  have hl:i<its.toArray.size:=by
   have:=(gS hu).1
   simpa using this
  refine wpAny_pyNext_enum_itemD (av6 (A:=X.A.in1) (I.ok.hd hc) it a nia its.toArray) he ⟨hit,ob,p1,p2,n,p3⟩ hl hne (by simp only [List.mem_cons,List.not_mem_nil,or_false,not_or]; exact ⟨hne,nea⟩) fun y h' tk hy ho st' hT hsz hk=>?_
  have hyu:y=u:=by
   rw [List.getElem?_toArray,hu] at hy
   cases hy
   rfl
  subst hyu
  have fr:H s.heap.objs.size=none:=I.hok.fresh (Nat.le_refl _)
  have I1:Inv X pins σ H { s with heap:=h',toks:=tk+1 }:=I.turnedL (ch:=[e,it]) (fun b o hb q=>hk b o (fun z=>hb (by simp [z])) (fun z=>hb (by simp [z])) q) hf
  have I2:Inv X pins σ (upd H s.heap.objs.size (.tup [.int (i:Nat),x])) { s with heap:=h',toks:=tk+1 }:=I1.adopt (o:=.tup [.int (i:Nat),x]) fr I.sz (Nat.ne_of_gt I.lt) (fun y c ec z=>by
   obtain ⟨v,q⟩:=I.cell y c ec
   exact absurd q.lt (by rw [z]; exact Nat.lt_irrefl _)) (fun q hq z=>absurd (Heap.lt_size (I.pin q hq).1) (by rw [z]; exact Nat.lt_irrefl _))
   ⟨le_line (by simp),[.int (i:Nat) tk,y],.cons ⟨_,rfl⟩ (.cons ru .nil),⟨_,hT,rfl,_,rfl⟩⟩
  have ne:∀ b∈[e,it],b≠s.heap.objs.size:=fun b hb=>by
   rcases (by simpa using hb:b=e∨b=it) with rfl | rfl
   · exact Nat.ne_of_lt helt
   · exact Nat.ne_of_lt hilt
  have hf2:∀ b∈[e,it],FpOk X pins (upd H s.heap.objs.size (.tup [.int (i:Nat),x])) b:=fun b hb=>⟨by rw [a09 (ne b hb)]; exact (hf b hb).1,(hf b hb).2⟩
  refine ⟨_,rfl,wpAny_letOwnedTupleGo_enum ho fun h2 he2 hs2=>⟨.ref s.heap.objs.size,_,I2.turnedL (t':=tk+1) (ch:=[e]) (fun b o hb q=>(hs2.2 b (fun z=>hb (by simp [z]))).trans q) (fun b hb=>hf2 b (by simp at hb; simp [hb])),rfl,⟨s.heap.objs.size,x,rfl,fr,Same.new fr,a41,fun ys hy=>by rw [I.tuple_inj hy hq]; exact hx⟩,⟨⟨_,by simpa using he2⟩,ak8 st'.1 fun o q=>(hs2.2 it (Ne.symm hne)).trans q⟩,fun b hb=>(hf2 b hb).1⟩⟩
 done:=by
  intro X hP hw hK hc i pins s σ H E I hf st hg
  subst hP hw hK
  obtain ⟨xs,hq,hx⟩:=hg
  obtain ⟨its,rv,⟨ob,p1,p2,n,p3⟩,hz⟩:=I.tuple hq
  obtain ⟨⟨old,he⟩,hit⟩:=st
  have nia:a≠it:=fun z=>by
   subst z
   obtain ⟨o2,g1,g2,_⟩:=hit
   rw [p1] at g1
   cases g1
   rw [p2] at g2
   exact absurd g2 (by decide)
  have hl:its.toArray.size=i:=by
   have:=rv.length
   rw [List.size_toArray,←this]
   exact hx
  subst hl
  exact wpAny_pyNext_enum_endD (av6 (A:=X.A.in1) (I.ok.hd hc) it a nia its.toArray) he ⟨hit,ob,p1,p2,n,p3⟩ fun h' eb=>⟨rfl,I.turnedL (t':=s.toks) (ch:=[it]) (fun b o hb q=>eb b o (fun z=>hb (by simp [z])) q) (fun b hb=>hf b (by simp at hb; simp [hb]))⟩
 self:=fun A i s Q E st h=>let ⟨old,he⟩:=st.1; wpAny_pyIter_enum he h
section
variable {X:Cx}{elts:List Expr}{x1:Nat}{tpos:Pos}
def iEnumT (K:W.Frag) (ta:TA):TI:=fun σ H R=>ta σ H fun vs H1=>∃ a,vs=[.ref a]∧(∃ xs,SqT K H1 a xs)∧R (IteT K a) H1
theorem bq0 (K:W.Frag) {a:Expr}{ta:TA}{p pos:Pos}(hg:Gl X "enumerate") (hm:X.mg "enumerate"=none) (ha:PA X [a] ta) (hs:starEach [a] X.env=[(false,eval a X.env)]:=by rfl) (hK:X.K=K:=by rfl):PI X (.Tuple elts x1 tpos) (.Call (.Name "enumerate" p) [a] [] pos) (iEnumT K ta):=by
 subst hK
 intro pins s σ H R I h
 refine Call_ (al3 I hg hm boot_enumerate (PyProof.Rows.callWith_type1 (thn (ha pos pins s σ H _ I h) fun us s1 ⟨vs,H1,I1,r1,q1⟩=>?_) hs rfl))
 obtain ⟨l,e,⟨xs,hq⟩,q⟩:=q1
 subst e
 obtain ⟨u,rfl,ru⟩:=b74 r1
 cases ru
 obtain ⟨its,rv,pl,hz⟩:=I1.tuple hq
 refine b87 pl fun h' he hit hk=>?_
 refine wpAny_pyIter_enum he ?_
 refine ⟨s1.heap.objs.size+1,[s1.heap.objs.size+1,s1.heap.objs.size],_,_,H1,rfl,I1.kept (t':=s1.toks) hk,b88 l _ _ (Nat.succ_ne_self _),⟨⟨_,he⟩,hit⟩,fun b hb=>?_,q⟩
 have hb':s1.heap.objs.size≤b:=by
  rcases (by simpa using hb:b=s1.heap.objs.size+1∨b=s1.heap.objs.size) with rfl | rfl <;> omega
 exact I1.fpOk hb' (I1.hok.fresh hb')
theorem bz4 {K:W.Frag}{σ:St} {H:Hp}{R:It→Hp→Prop}{ts:TA}(h:ts σ H fun vs H1=>∃ a,vs=[.ref a]∧(∃ xs,SqT K H1 a xs)∧R (IteT K a) H1):iEnumT K ts σ H R:=h
theorem bg8 {K:W.Frag}{a:Addr}{xs:List V}{g:TG}{tb:TS}{D:Ends}{σ:St} {H:Hp}(Pv:Nat→St→Hp→Prop) (h0:Pv 0 σ H) (hl:∀ i σ H,i≤xs.length→Pv i σ H→SqT K H a xs)
 (hs:∀ i x σ H q H2,xs[i]?=some x→Pv i σ H→Same H H2→H2 q=some (.tup [.int (i:Nat),x])→g (.ref q) σ H2 fun σ1 H1=>tb { D with nx:=Pv (i+1),ct:=Pv (i+1),bk:=D.nx } σ1 H1)
 (hd:∀ σ H,Pv xs.length σ H→D.nx σ H):ForEnd (IteT K a) g tb D σ H:=by
 refine ⟨fun i m σ H=>m=xs.length - i∧i≤xs.length∧Pv i σ H,⟨xs.length,by simp,Nat.zero_le _,h0⟩,?_⟩
 rintro i m σ' H' ⟨rfl,hi,p⟩
 have hq:=hl i σ' H' hi p
 by_cases hlt:i<xs.length
 · refine .inr ⟨⟨xs,xs[i],hq,by simp [hlt]⟩,Pv (i+1),fun σ2 H2 p'=>⟨xs.length - (i+1),by omega,rfl,hlt,p'⟩,fun v H2 y=>?_⟩
   obtain ⟨q,x,rfl,hn,sm,hT,hx⟩:=y
   exact hs i x σ' H' q H2 (hx xs hq) p sm hT
 · have e:i=xs.length:=by omega
   subst e
   exact .inl ⟨⟨xs,hq,rfl⟩,hd σ' H' p⟩
end
theorem az8 (t:SetTable) (n:Nat):(t.orStandIn n).led=t.led∧(t.plain=false→(t.orStandIn n).plain=false):=by
 unfold SetTable.orStandIn
 split
 · exact ⟨rfl,id⟩
 · exact ⟨rfl,fun _=>rfl⟩
theorem bz5 (t:SetTable) (es:Array (Int×Value)) (h:Int) (x:Value):(layNew t es h x).2.1.led=t.led∧(t.plain=false→(layNew t es h x).2.1.plain=false):=by
 unfold layNew
 split
 · exact az8 _ _
 · exact ⟨rfl,fun _=>rfl⟩
theorem bg9 (t:SetTable) (es:Array (Int×Value)) (n:Nat):(relayAll t es n).2.1.led=t.led∧(t.plain=false→(relayAll t es n).2.1.plain=false):=by
 unfold relayAll
 split
 · next t' order he =>
   dsimp only
   split
   · unfold SetTable.relaid SetTable.laid at he
     simp only [Option.bind_eq_bind,Option.pure_def,Option.bind_eq_some_iff,Option.some.injEq] at he
     obtain ⟨ow,_,he⟩:=he
     have:=congrArg Prod.fst he
     dsimp only at this
     rw [← this]
     exact ⟨rfl,id⟩
   · exact ⟨rfl,fun _=>rfl⟩
 · exact ⟨rfl,fun _=>rfl⟩
section
variable {prog:Program}{w:World}
structure SStr (prog:Program) (w:World) (h:Heap) (a:Addr) (es:Array (Int×Value)):Prop where
 ex:∃ o ep t,h.get? a=some o∧o.ExactSet∧o.data=.set es ep t∧t.fits es.size=true∧t.led=!w.params.followText "set-order"∧(0<es.size→t.plain=false)
 el:ElemsOf (strKind prog w) es.toList
 lt:es.size<scanBound
theorem SStr.store {h:Heap}{a:Addr}{o:Obj}{es es':Array (Int×Value)}{ep:Nat}{t t':SetTable}(ho:h.get? a=some o) (hx:o.ExactSet) (hd:o.data=.set es ep t) (hf:t'.fits es'.size=true) (hl:t'.led=!w.params.followText "set-order") (hp:0<es'.size→t'.plain=false) (el:ElemsOf (strKind prog w) es'.toList) (lt:es'.size<scanBound) :
 (h.update a (Obj.putSet es' t')).get? a=some { o with data:=.set es' (ep+1) t' }∧SStr prog w (h.update a (Obj.putSet es' t')) a es':=by
 have e:(h.update a (Obj.putSet es' t')).get? a=some { o with data:=.set es' (ep+1) t' }:=by
  rw [← putSet_of es' t' hd]
  exact Heap.get?_update_self (Obj.putSet es' t') ho (by rw [putSet_of es' t' hd]; rfl)
 exact ⟨e,⟨_,ep+1,t',e,hx,rfl,hf,hl,hp⟩,el,lt⟩
def Grew (w:World) (es es':Array (Int×Value)) (k:Str):Prop:=(es'=es∧∃ e∈es.toList,e.2.isStrOf k=true)∨((∀ e∈es.toList,e.2.isStrOf k=false)∧∃ u,es'.toList.Perm (es.toList++[(hashStr w k,.str k u)]))
variable {A:Around}{E:Value→Shared→Prop}{s:Shared}
theorem SStr.add {a:Addr}{es:Array (Int×Value)}{k:Str}{u:Tok}{Q:Bool→Shared→Prop}(hS:SStr prog w s.heap a es) (room:es.size+1<scanBound)
 (h:∀ b h' es',Heap.SameBut a s.heap h'→SStr prog w h' a es'→Grew w es es' k→Q b { s with heap:=h',toks:=s.toks+1 }):wpAny (model prog w) A (setAdd a (.str k u)) Q E s:=by
 obtain ⟨⟨o,ep,t,ho,hx,hd,hf,hl,hp⟩,hel,hlt⟩:=hS
 have hk:(strKind prog w).is k (.str k u)=true:=by simp [PySem.strKind,Value.isStrOf]
 have hsc:(Value.str k u).scannable=true:=rfl
 unfold setAdd setAddHashed setAddHashedIn
 refine wpAny_holding (wB ((strKind prog w).pyHash hk ?_))
 refine wpAny_holding (wB (wpAny_setState_of (s:={ s with toks:=s.toks+1 }) ho hd hf ?_))
 dsimp only
 rw [byScan_of hsc hlt hel]
 simp only [↓reduceIte]
 unfold setAddByScan
 refine wB (wB (wpAny_rule (wB (wpAny_setScan_of (s:={ s with toks:=s.toks+1 }) hk ho hd hf hel ?_))))
 cases hr:List.findIdx? (fun e=>(strKind prog w).is k e.2) es.toList with
 | some j =>
   dsimp only
   obtain ⟨hj,hpj,_⟩:=List.findIdx?_eq_some_iff_getElem.mp hr
   exact wpAny_pure (wpAny_pure (h _ s.heap es (Heap.SameBut.refl a s.heap) ⟨⟨o,ep,t,ho,hx,hd,hf,hl,hp⟩,hel,hlt⟩ (.inl ⟨rfl,_,List.getElem_mem hj,hpj⟩)))
 | none =>
   dsimp only
   have hno:∀ e∈es.toList,e.2.isStrOf k=false:=fun e he=>by
    have:=List.findIdx?_eq_none_iff.mp hr e he
    exact this
   have hgw:∀ (b:Bool) {s₁:Shared}{Q':Unit→Shared→Prop},Q' () s₁→wpAny (model prog w) A (match b with | true=>rule "set.scan.the-table-gave-way" | false=>pure ()) Q' E s₁:=fun b s₁ Q' hq=>by
    cases b
    · exact wpAny_pure hq
    · exact wpAny_rule hq
   have p1:=layNew_perm t es ((strKind prog w).hash k) (.str k u)
   have q1:=layNew_fits t es ((strKind prog w).hash k) (.str k u)
   have r1:=bz5 t es ((strKind prog w).hash k) (.str k u)
   generalize layNew t es ((strKind prog w).hash k) (.str k u)=L at p1 q1 r1 ⊢
   obtain ⟨es1,t1,wd,gv⟩:=L
   dsimp only at p1 q1 r1 ⊢
   rw [Array.toList_push] at p1
   have el1:ElemsOf (strKind prog w) es1.toList:=(hel.push hk hsc).perm p1
   have sz1:es1.size=es.size+1:=by rw [← Array.length_toList,p1.length_eq]; simp
   refine wB (hgw _ ?_)
   have fin:∀ t2:SetTable,t2.fits es1.size=true→t2.led=t.led→t2.plain=false→wpAny (model prog w) A (do
    storeSet a es1 t2
    if (!wd && t2.tooFull)=true then do
     (match (relayAll t2 es1 (SetTable.grown es1.size)).2.2 with | true=>rule "set.scan.the-table-gave-way" | false=>pure ())
     storeSet a (relayAll t2 es1 (SetTable.grown es1.size)).1 (relayAll t2 es1 (SetTable.grown es1.size)).2.1
     pure (some true)
     else pure (some true)) (fun r s₁=>wpAny (model prog w) A (match r with | some added=>pure added | none=>setAddHashedIn a (.str k u) ((strKind prog w).hash k) 99999) Q E s₁) E { s with toks:=s.toks+1 }:=by
    intro t2 f2 l2 pl2
    obtain ⟨o1,S1⟩:=SStr.store (prog:=prog) (w:=w) (es':=es1) (t':=t2) ho hx hd f2 (l2.trans hl) (fun _=>pl2) el1 (by omega)
    have b1:=Heap.SameBut.update s.heap a (Obj.putSet es1 t2)
    refine wB (wpAny_storeSet_of (s:={ s with toks:=s.toks+1 }) ho hd ?_ (fits_of_scanBound (by omega)))
    split
    · have p2:=relayAll_perm t2 es1 (SetTable.grown es1.size)
      have q2:=relayAll_fits t2 es1 (SetTable.grown es1.size)
      have r2:=bg9 t2 es1 (SetTable.grown es1.size)
      generalize relayAll t2 es1 (SetTable.grown es1.size)=R at p2 q2 r2 ⊢
      obtain ⟨es2,t3,gv2⟩:=R
      dsimp only at p2 q2 r2 ⊢
      have sz2:es2.size=es1.size:=by rw [← Array.length_toList,p2.length_eq,Array.length_toList]
      refine wB (hgw _ ?_)
      obtain ⟨_,S2⟩:=SStr.store (prog:=prog) (w:=w) (es':=es2) (t':=t3) o1 hx rfl q2 (r2.1.trans (l2.trans hl)) (fun _=>r2.2 pl2) (el1.perm p2) (by omega)
      refine wB (wpAny_storeSet_of o1 rfl ?_ (fits_of_scanBound (by omega)))
      exact wpAny_pure (wpAny_pure (h _ _ es2 (b1.trans (Heap.SameBut.update _ a _)) S2 (.inr ⟨hno,u,p2.trans p1⟩)))
    · exact wpAny_pure (wpAny_pure (h _ _ es1 b1 S1 (.inr ⟨hno,u,p1⟩)))
   split
   · refine wB ?_
     rw [hashByValue_scannable 8 hsc]
     refine wpAny_pure ?_
     exact fin { t1 with plain:=false } q1 r1.1 rfl
   · next hpl =>
     refine wB (wpAny_pure ?_)
     simp only [↓reduceIte]
     exact fin t1 q1 r1.1 (by simpa using hpl)
end
noncomputable def metS (ks:List Str) (k:Str):List Str:=if k∈ks then ks else ks++[k]
noncomputable def firstS (val:Nat→Str) (i:Nat):List Str:=((List.range i).map val).foldl metS []
theorem af5 (val:Nat→Str) (i:Nat):firstS val (i+1)=metS (firstS val i) (val i):=by
 unfold firstS
 rw [List.range_succ,List.map_append,List.foldl_append]
 rfl
theorem bq1 {ks:List Str}{k x:Str}:x∈metS ks k↔x∈ks∨x=k:=by
 unfold metS
 split
 · constructor
   · exact .inl
   · rintro (h | rfl)
     · exact h
     · assumption
 · simp
theorem aq2 (val:Nat→Str) (x:Str):∀ i,x∈firstS val i↔∃ j,j<i∧val j=x
 | 0=>by simp [firstS]
 | i+1=>by
   rw [af5,bq1,aq2 val x i]
   constructor
   · rintro (⟨j,h,e⟩ | rfl)
     · exact ⟨j,by omega,e⟩
     · exact ⟨i,by omega,rfl⟩
   · rintro ⟨j,h,e⟩
     by_cases hj:j=i
     · subst hj; exact .inr e.symm
     · exact .inl ⟨j,by omega,e⟩
theorem bq2 (ks:List Str) (k:Str):(metS ks k).length≤ks.length+1:=by
 unfold metS
 split <;> simp
theorem aq3 (val:Nat→Str):∀ i,(firstS val i).length≤i
 | 0=>by simp [firstS]
 | i+1=>by
   rw [af5]
   have h1:=bq2 (firstS val i) (val i)
   have h2:=aq3 val i
   omega
def entS (w:World) (x:Str×Tok):Int×Value:=(hashStr w x.1,.str x.1 x.2)
def KsOf (w:World) (es:Array (Int×Value)) (ks:List Str):Prop:=ks.Nodup∧∃ l:List (Str×Tok),l.map (·.1)=ks∧es.toList.Perm (l.map (entS w))
theorem KsOf.len {w:World}{es:Array (Int×Value)}{ks:List Str}(h:KsOf w es ks):es.size=ks.length:=by
 obtain ⟨_,l,rfl,p⟩:=h
 rw [← Array.length_toList,p.length_eq]
 simp
theorem KsOf.grew {w:World}{es es':Array (Int×Value)}{ks:List Str}{k:Str}(h:KsOf w es ks) (g:Grew w es es' k):KsOf w es' (metS ks k):=by
 obtain ⟨nd,l,rfl,p⟩:=h
 have hm:k∈l.map (·.1)↔∃ e∈es.toList,e.2.isStrOf k=true:=by
  constructor
  · intro hk
    obtain ⟨x,hx,rfl⟩:=List.mem_map.mp hk
    exact ⟨entS w x,p.mem_iff.mpr (List.mem_map_of_mem hx),by simp [entS,Value.isStrOf]⟩
  · rintro ⟨e,he,hi⟩
    obtain ⟨x,hx,rfl⟩:=List.mem_map.mp (p.mem_iff.mp he)
    have:x.1=k:=by
     have:=Value.isStrOf_shape hi
     obtain ⟨t,e⟩:=this
     simp only [entS,Value.str.injEq] at e
     exact e.1
    rw [← this]
    exact List.mem_map_of_mem hx
 rcases g with ⟨rfl,hx⟩ | ⟨hno,u,pp⟩
 · unfold metS
   rw [if_pos (hm.mpr hx)]
   exact ⟨nd,l,rfl,p⟩
 · have hk:k∉l.map (·.1):=fun z=>by
    obtain ⟨e,he,hi⟩:=hm.mp z
    rw [hno e he] at hi
    cases hi
   unfold metS
   rw [if_neg hk]
   refine ⟨?_,l++[(k,u)],by simp,?_⟩
   · refine List.nodup_append.mpr ⟨nd,by simp,fun a ha b hb z=>?_⟩
     rw [gG hb] at z
     exact hk (z ▸ ha)
   · refine pp.trans ?_
     rw [List.map_append]
     exact List.Perm.append p (List.Perm.refl _)
section
variable {prog:Program}{w:World}{A:Around}{R:Result→Shared→Prop}{I:Addr}{fp wr:List Addr}{G:Array GenState→Array GenState→Prop}{n:Nat}{P:Nat→Value→Prop}{St:Nat→Shared→Prop}
theorem SStr.moved {h h':Heap}{a:Addr}{es:Array (Int×Value)}(x:SStr prog w h a es) (k:∀ o,h.get? a=some o→h'.get? a=some o):SStr prog w h' a es:=by
 obtain ⟨⟨o,ep,t,ho,r⟩,el,lt⟩:=x
 exact ⟨⟨o,ep,t,k _ ho,r⟩,el,lt⟩
theorem bq3 (W:WalksS prog w A.in1 I fp wr G n P St) (S:Addr) (hSf:S∉fp) (val:Nat→Str) (hval:∀ i v,P i v→∃ t,v=.str (val i) t) (hb:n+1<scanBound) :
 ∀ (k i:Nat) (s:Shared) (es:Array (Int×Value)),n - i=k→i≤n→St i s→SStr prog w s.heap S es→KsOf w es (firstS val i) →
  (∀ s' es',Moved (S::wr) G s s'→SStr prog w s'.heap S es'→KsOf w es' (firstS val n)→R (.ok (.ret .none)) s') →
  codeAny (model prog w) A (.builtin "set.update.loop" ⟨[.ref S,.ref I],[]⟩) R s:=by
 have hw:S∉wr:=fun z=>hSf (W.sub _ z)
 have hs:∀ b∈wr,b∈S::wr:=fun b z=>List.mem_cons_of_mem _ z
 intro k
 induction k with
 | zero =>
   intro i s es hk hi st hS hK q
   have e:i=n:=by omega
   subst e
   refine codeAny_builtin F.entry_set_update_loop ?_
   rw [Around.under_plainId F.plain_set_update_loop _]
   show wpAny _ A.in1 (pyNext (.ref I) >>= _) _ _ s
   refine wB (W.done s _ _ st fun s' hm=>?_)
   show wpAny _ A.in1 (ret Value.none) _ _ s'
   exact wpAny_pure (q s' es (hm.mono hs) (hS.moved fun o e=>hm.heap S _ hw e) hK)
 | succ k ih =>
   intro i s es hk hi st hS hK q
   have lt:i<n:=by omega
   refine codeAny_builtin F.entry_set_update_loop ?_
   rw [Around.under_plainId F.plain_set_update_loop _]
   show wpAny _ A.in1 (pyNext (.ref I) >>= _) _ _ s
   refine wB (W.item i s _ _ lt st fun v s' hP st' hm=>?_)
   obtain ⟨u,rfl⟩:=hval i v hP
   have hS':SStr prog w s'.heap S es:=hS.moved fun o e=>hm.heap S _ hw e
   show wpAny _ A.in1 (holding [Value.str (val i) u] (setAdd S (.str (val i) u)) >>= _) _ _ s'
   have l1:=aq3 val i
   have l2:=hK.len
   refine wB (wpAny_holding (SStr.add hS' (by omega) fun b h' es' sb hS2 g=>?_))
   refine wpAny_pure ⟨plainId_quiet F.plain_set_update_loop _,ih (i+1) _ es' (by omega) lt (W.frame _ s' _ _ st' (Nat.le_succ _) fun b hb o e=>?_) hS2 (by rw [af5]; exact hK.grew g) fun s2 es2 m2 S2 K2=>?_⟩
   · rw [sb.2 b (fun z:b=S=>hSf (z ▸ hb))]
     exact e
   · refine q s2 es2 (Moved.trans W.gtrans ((hm.mono hs).then_heap (Nat.le_succ _) fun b o hb e=>?_) m2) S2 K2
     rw [sb.2 b (fun z:b=S=>hb (by rw [z]; exact List.mem_cons_self))]
     exact e
end
section
variable {prog:Program}{w:World}{A:Around}{E:Value→Shared→Prop}{s:Shared}
def setObj (w:World):Obj:={ cls:=.type "set",dict:=none,data:=.set #[] 0 (.fresh 0 0 (!w.params.followText "set-order")) }
theorem bq4 (v:Value) {Q1:Value→Shared→Prop}(h:Q1 (.ref s.heap.objs.size) { s with heap:=s.heap.push (setObj w) }) :
 codeAny (model prog w) A (.call (.builtin "set.__new__") ⟨[.type "set",v],[]⟩) (wants Q1 E) s:=by
 refine codeAny_of_tree ?_
 show wpAny _ A.in1 (do checkBuiltinCall "set.__new__" ⟨[.type "set",v],[]⟩; again (.builtin "set.__new__" ⟨[.type "set",v],[]⟩)) _ _ s
 refine wB (wpAny_of_eq (F.newCall_set_1 v) (wpAny_pure ⟨plainId_quiet F.plain_set_new _,codeAny_builtin F.entry_set_new ?_⟩))
 rw [Around.under_plainId F.plain_set_new _]
 unfold Builtin.«set.__new__» Builtin.Frozenset.newClass
 have hsub:=sub_set_self
 obtain ⟨hp,g,d,tk,os⟩:=s
 dsimp only
 wp_walk
 refine wpAny_askSetting (wpAny_pure ?_)
 dsimp only
 simp only [newObj]
 exact wB (wpAny_alloc (wpAny_pure (wpAny_pure h)))
theorem as6 {l:Addr}{items:Array Value}{val:Nat→Str}{Q:Value→Shared→Prop}(hh:A.handled=none) (hl:s.heap.IsList l items) (hi:∀ (i:Nat) (v:Value),items[i]?=some v→∃ t,v=.str (val i) t) (hb:items.size+1<scanBound)
 (h:∀ (h':Heap) (tk:Nat) (es:Array (Int×Value)),SStr prog w h' s.heap.objs.size es→KsOf w es (firstS val items.size)→(∀ b o,b<s.heap.objs.size→s.heap.get? b=some o→h'.get? b=some o)→Q (.ref s.heap.objs.size) { s with heap:=h',toks:=tk }) :
 wpAny (model prog w) A (call (.type "set") [.ref l]) Q E s:=by
 obtain ⟨c,tl,hmro⟩:=F.called_set.mro
 have hmade:=F.called_set.made
 have hsub:=F.called_set.sub
 refine wpAny_call (codeAny_of_tree ?_)
 show wpAny _ _ (callAny (.type "set") _) _ _ _
 refine wpAny_pure ⟨Code.quiet_builtin _ (by decide +kernel),codeAny_builtin F.entry_type_call ?_⟩
 rw [Around.under_plain (weight_type_call_type "set" [.ref l] []) rfl]
 have h1:=F.called_set.notType
 have h2:=F.called_set.canCreate
 have hct:=F.typeCall_set_1 (.ref l)
 repeat (any_goals (first | assumption | wp_step))
 refine codeAny_mono (bq4 (.ref l) (E:=E) (Q1:=fun obj s1=>obj=.ref s.heap.objs.size∧s1={ s with heap:=s.heap.push (setObj w) }) ⟨rfl,rfl⟩) fun r s1 hr=>?_
 cases r with
 | error e=>exact hr
 | ok fl =>
   cases fl with
   | ret obj =>
     obtain ⟨rfl,rfl⟩:=hr
     have hS:(s.heap.push (setObj w)).get? s.heap.objs.size=some (setObj w):=Heap.get?_push_size _ rfl
     have hT:Shared.TypeIs { s with heap:=s.heap.push (setObj w) } (.ref s.heap.objs.size) "set":=⟨_,hS,rfl⟩
     have hli:=F.called_set.init.lookup
     have hbi:=F.called_set.init.bind (.ref s.heap.objs.size)
     repeat (any_goals (first | assumption | wp_step))
     refine codeAny_mono (codeAny_call_builtin (R:=wants (fun r s2=>r=.none∧∃ h' tk es,s2={ s with heap:=h',toks:=tk }∧SStr prog w h' s.heap.objs.size es∧KsOf w es (firstS val items.size) ∧
      (∀ b o,b<s.heap.objs.size→s.heap.get? b=some o→h'.get? b=some o)) E) F.called_set.init.plain F.entry_set_init (check_set_init_1 hT ?_)) fun r2 s2 hr2=>?_
     · obtain ⟨ol,hol,hcl,nl,hdl⟩:=hl
       obtain ⟨ocls,odict,odata,oslots⟩:=ol
       simp only at hcl hdl
       subst hcl; subst hdl
       have hol':(s.heap.push (setObj w)).get? l=some { cls:=.type "list",dict:=odict,data:=.seq items nl,slots:=oslots }:=gP _ hol
       have hsls:=F.sub_list_set
       have hslf:=F.sub_list_frozenset
       have hne:(Value.type "list" == Value.type "dict")=false:=by decide
       have hl1:(s.heap.push (setObj w)).IsList l items:=⟨_,hol',rfl,nl,rfl⟩
       unfold Builtin.«set.__init__» noKeywords Builtin.Frozenset.updateFrom
       generalize hPI:pyIter=PI
       wp_walk
       subst hPI
       refine wpAny_pyIter_list hl1 (wB (wpAny_runValue ?_))
       have hlS:l<s.heap.objs.size:=Heap.lt_size hol
       have hh3:A.in1.in1.in1.handled=none:=by simp [hh]
       have hneI:l≠(s.heap.push (setObj w)).objs.size:=by
        rw [Heap.size_push]; exact Nat.ne_of_lt (Nat.lt_succ_of_lt hlS)
       have hSf:s.heap.objs.size∉[(s.heap.push (setObj w)).objs.size,l]:=by
        rw [Heap.size_push]
        simp only [List.mem_cons,List.not_mem_nil,or_false,not_or]
        exact ⟨Nat.ne_of_lt (Nat.lt_succ_self _),Nat.ne_of_gt hlS⟩
       have hget:((s.heap.push (setObj w)).push { cls:=.type "list_iterator",data:=.fields #[.ref l,.int 0 0] }).get? s.heap.objs.size=some (setObj w):=gP _ hS
       refine bq3 ((Walks.list hh3 _ l hneI items).toS) s.heap.objs.size hSf val hi hb (items.size - 0) 0 _ #[] (by omega) (Nat.zero_le _) ⟨⟨_,Heap.get?_push_size _ rfl,rfl,rfl⟩,(hl1.push _)⟩ ?hS0 ?hK0 ?hR
       case hS0=>exact ⟨⟨_,0,_,hget,⟨rfl,rfl,rfl⟩,rfl,rfl,rfl,fun z=>absurd z (by simp)⟩,fun e he=>by simp at he,by decide⟩
       case hK0=>exact ⟨by simp [firstS],[],by simp [firstS],by simp⟩
       case hR =>
        intro s' es' hm hS' hK'
        obtain ⟨h',g',d',tk',os'⟩:=s'
        have eg:g'=s.gens:=hm.gens
        have ed:d'=s.drawn:=hm.drawn
        have eo:os'=s.os:=hm.os
        subst eg; subst ed; subst eo
        show wpAny _ _ _ _ _ _
        refine wpAny_pure ?_
        show wpAny _ _ (ret Value.none) _ _ _
        refine wpAny_pure ⟨rfl,h',tk',es',rfl,hS',hK',fun b o hb e=>?_⟩
        have hb1:b≠s.heap.objs.size:=Nat.ne_of_lt hb
        have hb2:b≠(s.heap.push (setObj w)).objs.size:=by
         rw [Heap.size_push]; exact Nat.ne_of_lt (Nat.lt_succ_of_lt hb)
        exact hm.heap b o (by simp only [List.mem_cons,List.not_mem_nil,or_false,not_or]; exact ⟨hb1,hb2⟩) (gP _ (gP _ e))
     · cases r2 with
       | error e=>exact hr2
       | ok fl2 =>
         cases fl2 with
         | ret r =>
           obtain ⟨rfl,h',tk,es,rfl,hS',hK',hk'⟩:=hr2
           repeat (any_goals (first | assumption | wp_step))
           exact h _ _ _ hS' hK' hk'
         | _=>exact hr2.elim
   | _=>exact hr.elim
end
theorem ak9 {α:Type}:∀ (xs:List α) (i:Nat) (h:i<xs.length),(xs[i]::xs.eraseIdx i).Perm xs
 | x::xs,0,_=>List.Perm.refl _
 | x::xs,i+1,h=>by
   have h':i<xs.length:=by simpa using h
   exact (List.Perm.swap x xs[i] (xs.eraseIdx i)).trans (List.Perm.cons x (ak9 xs i h'))
section
variable {M:Model}{A:Around}{E:Value→Shared→Prop}{s:Shared}
theorem bq5 {n:Nat}{Q:Nat→Shared→Prop}(hn:n≠0) (h:∀ i d,i<n→Q i { s with drawn:=d }):wpAny M A (choose .order n) Q E s:=fun Γ p _=>by
 show Sem.wp M Γ (.choose .order n .pure) _ _ p s
 rw [Sem.wp_choose]
 exact ⟨hn,h _ _ (Nat.mod_lt _ (Nat.pos_of_ne_zero hn))⟩
theorem av7 {α:Type}:∀ (n:Nat) (xs:List α) (s:Shared) {Q:List α→Shared→Prop},xs.length=n→(∀ l d,l.Perm xs→Q l { s with drawn:=d })→wpAny M A (drawOrder n xs) Q E s
 | 0,xs,s,Q,hl,h=>by
   cases List.length_eq_zero_iff.mp hl
   exact wpAny_pure (h [] s.drawn (List.Perm.refl _))
 | n+1,xs,s,Q,hl,h=>by
   obtain ⟨x,xs',rfl⟩:=List.exists_cons_of_length_eq_add_one hl
   show wpAny M A (choose .order (x::xs').length >>= _) Q E s
   refine wB (bq5 (by simp) fun i d hi=>?_)
   rw [gE hi]
   dsimp only
   refine wB (av7 n _ _ (by rw [List.length_eraseIdx]; simp only [hi,if_true]; omega) fun l d' p=>?_)
   refine wpAny_pure (h _ d' ?_)
   exact (List.Perm.cons _ p).trans (ak9 _ i hi)
end
theorem slot_set_iterator_next:Slot "set_iterator" "__next__" "set_iterator.__next__" :=
 .of (owner:="set_iterator") (n:="__next__") (by rw [typeLookup_type,builtinLookup_eq_fast]; kernel_rfl) (by decide +kernel) (by decide +kernel) (by decide +kernel) (by first | exact .inl (by decide +kernel) | exact .inr (by decide +kernel)) (by rw [isSubtype_type]; kernel_rfl)
theorem a81:entryFor table "set_iterator.__next__"=some Builtin.«set_iterator.__next__»:=entryFor_of_tree (by kernel_rfl)
theorem ao8:entryFor table "set.__iter__"=some Builtin.«frozenset.__iter__»:=entryFor_alias (id':="frozenset.__iter__") (by kernel_rfl) rfl (by decide +kernel) (by kernel_rfl)
theorem a87 (a:Value):argsOk "set_iterator.__next__" ⟨[a],[]⟩:=by
 unfold argsOk
 kernel_rfl
section
variable {prog:Program}{w:World}{A:Around}{E:Value→Shared→Prop}{s:Shared}{S it:Addr}{o:Obj}{es:Array (Int×Value)}{ep:Nat}{t:SetTable}
def Drw (w:World) (es:Array (Int×Value)) (t:SetTable):Bool:=!w.params.followText "set-order" && (!t.plain && decide (es.size > 1))
theorem bh0 {Q:Bool→Shared→Prop}(ho:s.heap.get? S=some o) (hd:o.data=.set es ep t) (hf:t.fits es.size=true) (h:Q (Drw w es t) s):wpAny (model prog w) A (setDrawn S) Q E s:=by
 unfold setDrawn
 refine wB (wpAny_setState_of ho hd hf ?_)
 dsimp only
 unfold setsByText
 exact wB (wB (wpAny_askSetting (wpAny_pure (wpAny_pure h))))
def itObj (first:Value) (S:Addr) (i n ep:Nat):Obj:={ cls:=.type "set_iterator",data:=.fields #[first,.int i 0,.ref S,.int n 0,.int ep 0] }
def plObj (pl:List Nat):Obj:={ cls:=.type "tuple",data:=.seq (pl.map fun (i:Nat)=>rawInt i).toArray }
theorem bq6 {Q:Value→Shared→Prop}(ho:s.heap.get? S=some o) (hx:o.ExactSet) (hd:o.data=.set es ep t) (hf:t.fits es.size=true) (lt:es.size<scanBound)
 (qN:Drw w es t=false→Q (.ref s.heap.objs.size) { s with heap:=s.heap.push (itObj (rawInt 0) S 0 es.size ep) })
 (qD:Drw w es t=true→∀ (pl:List Nat) d,pl.Perm (List.range es.size)→Q (.ref (s.heap.push (plObj pl)).objs.size) { s with heap:=(s.heap.push (plObj pl)).push (itObj (.ref s.heap.objs.size) S 0 es.size ep),drawn:=d }) :
 wpAny (model prog w) A (pyIter (.ref S)) Q E s:=by
 have T:s.TypeIs (.ref S) "set":=⟨o,ho,hx.1⟩
 refine wpAny_pyIter_slot T F.slot_set_iter (wpAny_call_entry F.slot_set_iter T ao8 ?_ (F.args_set_iter_1 _))
 unfold Builtin.«frozenset.__iter__» Builtin.Frozenset.slot0 slotArgs
 simp only [List.isEmpty_nil,Bool.not_true,Bool.false_eq_true,↓reduceIte,bind_assoc,List.length_nil,bne_self_eq_false]
 unfold Builtin.Frozenset.addrOf Builtin.Frozenset.sizeOf
 refine wB (wpAny_pure ?_)
 try dsimp only
 refine wB (wpAny_pure ?_)
 refine wB (wB (wpAny_setEntries_of ho hd hf (wpAny_pure ?_)))
 refine wB (bh0 ho hd hf ?_)
 cases hD:Drw w es t with
 | false =>
   simp only [Bool.false_eq_true,if_false]
   refine wB (wpAny_pure (wB (wpAny_setEpoch_of ho hd hf ?_)))
   unfold newFields
   refine wB (wpAny_newObj_type (wpAny_pure ⟨_,rfl,"set_iterator",_,⟨_,Heap.get?_push_size _ rfl,rfl⟩,slot_set_iterator_next.lookup,?_⟩) (by size_fits))
   exact qN hD
 | true =>
   simp only [if_true]
   refine wB (av7 _ _ _ List.length_range fun pl d pp=>?_)
   unfold newTuple
   have ln:pl.length=es.size:=by rw [pp.length_eq,List.length_range]
   refine wB (wpAny_newObj_type ?_ (by show (pl.map _).toArray.size≤_; rw [List.size_toArray,gL,ln]; exact fits_of_scanBound lt))
   refine wB (wpAny_setEpoch_of (gP _ ho) hd hf ?_)
   unfold newFields
   refine wB (wpAny_newObj_type (wpAny_pure ⟨_,rfl,"set_iterator",_,⟨_,Heap.get?_push_size _ rfl,rfl⟩,slot_set_iterator_next.lookup,?_⟩) (by size_fits))
   exact qD hD pl d pp
end
section
variable {prog:Program}{w:World}{A:Around}{E:Value→Shared→Prop}{s:Shared}{S it tp:Addr}{o:Obj}{es:Array (Int×Value)}{ep i:Nat}{t:SetTable}{first:Value}
theorem bh1 {h:Heap}(hi:h.get? it=some (itObj first S i es.size ep)):(h.update it (Obj.mapFields (·.setIfInBounds 1 (rawInt ((i:Int)+1))))).get? it=some (itObj first S (i+1) es.size ep):=by
 have:=Heap.get?_update_self (Obj.mapFields (·.setIfInBounds 1 (rawInt ((i:Int)+1)))) hi rfl
 rw [this]
 rfl
theorem bu5 {pl:List Nat}{Q:Option (Array Value)→Shared→Prop}(ht:s.heap.get? tp=some (plObj pl)) (q:Q (some (pl.map fun (i:Nat)=>rawInt i).toArray) s):wpAny (model prog w) A (seqItems? (.ref tp)) Q E s:=wpAny_seqItems (n:=0) ht rfl q
theorem b89 {Q:Option Value→Shared→Prop}{pl:List Nat}{p:Nat}{e:Int×Value}(hi:s.heap.get? it=some (itObj (.ref tp) S i es.size ep)) (ht:s.heap.get? tp=some (plObj pl)) (ho:s.heap.get? S=some o) (hd:o.data=.set es ep t) (hf:t.fits es.size=true) (hp:pl[i]?=some p) (he:es[p]?=some e)
 (q:∀ h',h'.get? it=some (itObj (.ref tp) S (i+1) es.size ep)→Heap.SameBut it s.heap h'→Q (some e.2) { s with heap:=h' }):wpAny (model prog w) A (pyNext (.ref it)) Q E s:=by
 have T:s.TypeIs (.ref it) "set_iterator":=⟨_,hi,rfl⟩
 unfold pyNext
 refine wB (wpAny_attempt (wpAny_callSpecial?_slot (name:=Str.ofString "__next__") T slot_set_iterator_next (wpAny_call_entry slot_set_iterator_next T a81 ?_ (a87 _))))
 unfold Builtin.«set_iterator.__next__» slotArgs
 simp only [List.isEmpty_nil,Bool.not_true,Bool.false_eq_true,↓reduceIte,bind_assoc,List.length_nil,bne_self_eq_false]
 refine wB (wpAny_pure ?_)
 refine wB (wpAny_fieldsOf hi rfl ?_)
 show wpAny _ A.in1 (setEntries S >>= _) _ _ s
 refine wB (wpAny_setEntries_of ho hd hf ?_)
 rw [if_neg (by simp)]
 show wpAny _ A.in1 (seqItems? (.ref tp) >>= _) _ _ s
 refine wB (bu5 ht ?_)
 dsimp only
 rw [show ((pl.map fun (i:Nat)=>rawInt i).toArray)[((i:Nat):Int).toNat]?=some (rawInt p) by rw [Int.toNat_natCast,List.getElem?_toArray,gM,hp]; rfl]
 show wpAny _ A.in1 (setNextDrawn S ((p:Nat):Int).toNat ((ep:Nat):Int).toNat >>= _) _ _ s
 unfold setNextDrawn
 refine wB (wB (wpAny_setState_of ho hd hf ?_))
 dsimp only
 rw [if_neg (by simp),Int.toNat_natCast,he]
 refine wpAny_pure ?_
 show wpAny _ A.in1 (setField (.ref it) 1 (rawInt ((i:Int)+1)) >>= _) _ _ s
 refine wB (wpAny_setField hi rfl (by simp) ?_)
 exact wpAny_pure ⟨_,rfl,wpAny_pure (q _ (bh1 hi) (Heap.SameBut.update ..))⟩
theorem b55 {R:PySem.Fin→Shared→Prop}{E':Value→Shared→Prop}(hh:A.handled=none) (q:∀ h' e,(∀ b o,s.heap.get? b=some o→h'.get? b=some o)→Shared.TypeIs { s with heap:=h' } (.ref e) "StopIteration"→E' (.ref e) { s with heap:=h' }) :
 wpAny (model prog w) A (newExc (.type "StopIteration") [] >>= fun e=>(raiseNew e:Sem PySem.Fin)) R E' s:=by
 refine wB ?_
 simp only [newExc,newTuple]
 refine wB (wpAny_newObj_type ?_ (by size_fits))
 refine wB (m:=firstArgMember _ _) (wpAny_of_eq (a:=Value.none) (by first | rfl | (simp only [firstArgMember]; rfl)) (wpAny_newObj_type ?_ (by size_fits)))
 simp only [raiseNew]
 refine wB (wpAny_handled ?_)
 rw [hh]
 refine wB ((wpAny_pure) ((wpAny_throw) ?_))
 exact q _ _ (fun b o e=>gP _ (gP _ e)) ⟨_,Heap.get?_push_size _ rfl,rfl⟩
theorem bh2 {Q:Option Value→Shared→Prop}{pl:List Nat}(hh:A.handled=none) (hi:s.heap.get? it=some (itObj (.ref tp) S i es.size ep)) (ht:s.heap.get? tp=some (plObj pl)) (ho:s.heap.get? S=some o) (hd:o.data=.set es ep t) (hf:t.fits es.size=true) (hp:pl[i]?=none)
 (q:∀ h',Heap.ExtBut it s.heap h'→Q none { s with heap:=h' }):wpAny (model prog w) A (pyNext (.ref it)) Q E s:=by
 have T:s.TypeIs (.ref it) "set_iterator":=⟨_,hi,rfl⟩
 unfold pyNext
 refine wB (wpAny_attempt (wpAny_callSpecial?_slot (name:=Str.ofString "__next__") T slot_set_iterator_next (wpAny_call_entry slot_set_iterator_next T a81 ?_ (a87 _))))
 unfold Builtin.«set_iterator.__next__» slotArgs
 simp only [List.isEmpty_nil,Bool.not_true,Bool.false_eq_true,↓reduceIte,bind_assoc,List.length_nil,bne_self_eq_false]
 refine wB (wpAny_pure (wB (wpAny_fieldsOf hi rfl ?_)))
 show wpAny _ A.in1 (setEntries S >>= _) _ _ s
 refine wB (wpAny_setEntries_of ho hd hf ?_)
 rw [if_neg (by simp)]
 show wpAny _ A.in1 (seqItems? (.ref tp) >>= _) _ _ s
 refine wB (bu5 ht ?_)
 dsimp only
 rw [show ((pl.map fun (i:Nat)=>rawInt i).toArray)[((i:Nat):Int).toNat]?=none by rw [Int.toNat_natCast,List.getElem?_toArray,gM,hp]; rfl]
 show wpAny _ A.in1 (setField (.ref it) 0 (rawInt 0) >>= fun _=>setField (.ref it) 2 .none >>= fun _=>newExc (.type "StopIteration") [] >>= fun e=>raiseNew e) _ _ s
 refine wB (wpAny_setField hi rfl (by simp) ?_)
 refine wB (wpAny_setField (Heap.get?_update_self _ hi rfl) rfl (by simp) ?_)
 refine b55 hh fun h' e hk hT=>?_
 refine wB (wpAny_isInstance (b:=true) (T:="StopIteration") hT isSubtype_stop ?_)
 refine wpAny_pure (q _ fun b ob hb e=>hk _ _ ?_)
 exact ((Heap.SameBut.update ..).trans (Heap.SameBut.update ..)).extBut b ob hb e
end
theorem ac6:Slot "set_iterator" "__iter__" "set_iterator.__iter__" :=
 .of (owner:="set_iterator") (n:="__iter__") (by rw [typeLookup_type,builtinLookup_eq_fast]; kernel_rfl) (by decide +kernel) (by decide +kernel) (by decide +kernel) (by first | exact .inl (by decide +kernel) | exact .inr (by decide +kernel)) (by rw [isSubtype_type]; kernel_rfl)
theorem af6:entryFor table "set_iterator.__iter__"=some Builtin.«dict_keyiterator.__iter__»:=entryFor_alias (id':="dict_keyiterator.__iter__") (by kernel_rfl) rfl (by decide +kernel) (by kernel_rfl)
theorem ag2 (a:Value):argsOk "set_iterator.__iter__" ⟨[a],[]⟩:=by
 unfold argsOk
 kernel_rfl
theorem bh3 {α:Type}(nx:Nat→Nat):∀ (f k:Nat) (left:List α) (out:Array α),left.length≤f→(pickOrder.go nx f k left out).toList.Perm (out.toList++left)
 | 0,k,left,out,h=>by
   cases List.length_eq_zero_iff.mp (Nat.le_zero.mp h)
   simp [pickOrder.go]
 | f+1,k,left,out,h=>by
   rw [pickOrder.go]
   by_cases h0:left=[]
   · subst h0
     simp
   · have hl:0<left.length:=List.length_pos_iff.mpr h0
     have hi:nx k % left.length<left.length:=Nat.mod_lt _ hl
     rw [gE hi]
     dsimp only
     refine (bh3 nx f (k+1) _ _ (by rw [List.length_eraseIdx]; simp only [hi,if_true]; omega)).trans ?_
     rw [Array.toList_push,List.append_assoc]
     exact List.Perm.append (List.Perm.refl _) (ak9 _ _ hi)
theorem aj7 {α:Type}(nx:Nat→Nat) (xs:Array α):(pickOrder nx xs).toList.Perm xs.toList:=by
 have:=bh3 nx xs.size 0 xs.toList #[] (by simp)
 simpa [pickOrder] using this
section
variable {prog:Program}{w:World}{A:Around}{E:Value→Shared→Prop}{s:Shared}{S it tp:Addr}{o:Obj}{es:Array (Int×Value)}{ep i:Nat}{t:SetTable}{first:Value}
theorem as7 {Q:Value→Shared→Prop}(hi:s.heap.get? it=some (itObj first S i es.size ep)) (h:Q (.ref it) s):wpAny (model prog w) A (pyIter (.ref it)) Q E s:=by
 have T:s.TypeIs (.ref it) "set_iterator":=⟨_,hi,rfl⟩
 refine wpAny_pyIter_slot T ac6 (wpAny_call_entry ac6 T af6 ?_ (ag2 _))
 show wpAny _ _ (ret (.ref it)) _ _ s
 exact wpAny_pure ⟨_,rfl,"set_iterator",_,T,slot_set_iterator_next.lookup,h⟩
theorem aq4 {Q:Option Value→Shared→Prop}{slot nxt:Nat}{x:Value}(hi:s.heap.get? it=some (itObj (rawInt slot) S i es.size ep)) (ho:s.heap.get? S=some o) (hd:o.data=.set es ep t) (hf:t.fits es.size=true)
 (hn:∀ {E':Value→Shared→Prop}{Q':Option (Value×Nat)→Shared→Prop},Q' (some (x,nxt)) s→wpAny (model prog w) A.in1 (setNext S slot i ep) Q' E' s)
 (q:∀ h',h'.get? it=some (itObj (rawInt nxt) S (i+1) es.size ep)→Heap.SameBut it s.heap h'→Q (some x) { s with heap:=h' }):wpAny (model prog w) A (pyNext (.ref it)) Q E s:=by
 have T:s.TypeIs (.ref it) "set_iterator":=⟨_,hi,rfl⟩
 unfold pyNext
 refine wB (wpAny_attempt (wpAny_callSpecial?_slot (name:=Str.ofString "__next__") T slot_set_iterator_next (wpAny_call_entry slot_set_iterator_next T a81 ?_ (a87 _))))
 unfold Builtin.«set_iterator.__next__» slotArgs
 simp only [List.isEmpty_nil,Bool.not_true,Bool.false_eq_true,↓reduceIte,bind_assoc,List.length_nil,bne_self_eq_false]
 refine wB (wpAny_pure (wB (wpAny_fieldsOf hi rfl ?_)))
 show wpAny _ A.in1 (setEntries S >>= _) _ _ s
 refine wB (wpAny_setEntries_of ho hd hf ?_)
 rw [if_neg (by simp)]
 show wpAny _ A.in1 (setNext S ((slot:Nat):Int).toNat ((i:Nat):Int).toNat ((ep:Nat):Int).toNat >>= _) _ _ s
 rw [Int.toNat_natCast,Int.toNat_natCast,Int.toNat_natCast]
 refine wB (hn ?_)
 show wpAny _ A.in1 (setField (.ref it) 0 (rawInt ((nxt:Nat):Int)) >>= fun _=>setField (.ref it) 1 (rawInt ((i:Int)+1)) >>= fun _=>ret x) _ _ s
 refine wB (wpAny_setField hi rfl (by simp) ?_)
 have h1:(s.heap.update it (Obj.mapFields (·.setIfInBounds 0 (rawInt ((nxt:Nat):Int))))).get? it=some (itObj (rawInt nxt) S i es.size ep):=by
  rw [Heap.get?_update_self _ hi rfl]
  rfl
 refine wB (wpAny_setField h1 rfl (by simp) ?_)
 exact wpAny_pure ⟨_,rfl,wpAny_pure (q _ (bh1 h1) ((Heap.SameBut.update ..).trans (Heap.SameBut.update ..)))⟩
theorem av8 {Q:Option Value→Shared→Prop}{slot:Nat}(hh:A.handled=none) (hi:s.heap.get? it=some (itObj (rawInt slot) S i es.size ep)) (ho:s.heap.get? S=some o) (hd:o.data=.set es ep t) (hf:t.fits es.size=true)
 (hn:∀ {E':Value→Shared→Prop}{Q':Option (Value×Nat)→Shared→Prop},Q' none s→wpAny (model prog w) A.in1 (setNext S slot i ep) Q' E' s)
 (q:∀ h',Heap.ExtBut it s.heap h'→Q none { s with heap:=h' }):wpAny (model prog w) A (pyNext (.ref it)) Q E s:=by
 have T:s.TypeIs (.ref it) "set_iterator":=⟨_,hi,rfl⟩
 unfold pyNext
 refine wB (wpAny_attempt (wpAny_callSpecial?_slot (name:=Str.ofString "__next__") T slot_set_iterator_next (wpAny_call_entry slot_set_iterator_next T a81 ?_ (a87 _))))
 unfold Builtin.«set_iterator.__next__» slotArgs
 simp only [List.isEmpty_nil,Bool.not_true,Bool.false_eq_true,↓reduceIte,bind_assoc,List.length_nil,bne_self_eq_false]
 refine wB (wpAny_pure (wB (wpAny_fieldsOf hi rfl ?_)))
 show wpAny _ A.in1 (setEntries S >>= _) _ _ s
 refine wB (wpAny_setEntries_of ho hd hf ?_)
 rw [if_neg (by simp)]
 show wpAny _ A.in1 (setNext S ((slot:Nat):Int).toNat ((i:Nat):Int).toNat ((ep:Nat):Int).toNat >>= _) _ _ s
 rw [Int.toNat_natCast,Int.toNat_natCast,Int.toNat_natCast]
 refine wB (hn ?_)
 show wpAny _ A.in1 (setField (.ref it) 2 .none >>= fun _=>newExc (.type "StopIteration") [] >>= fun e=>raiseNew e) _ _ s
 refine wB (wpAny_setField hi rfl (by simp) ?_)
 refine b55 hh fun h' e hk hT=>?_
 refine wB (wpAny_isInstance (b:=true) (T:="StopIteration") hT isSubtype_stop ?_)
 refine wpAny_pure (q _ fun b ob hb e=>hk _ _ ?_)
 exact (Heap.SameBut.update ..).extBut b ob hb e
theorem av9 {slot:Nat}{Q:Option (Value×Nat)→Shared→Prop}(ho:s.heap.get? S=some o) (hd:o.data=.set es ep t) (hf:t.fits es.size=true) (hb:w.params.followText "set-order"=true)
 (q:Q (((pickOrder (w.params.setOrder S ep) es)[i]?).map fun e=>(e.2,slot)) s):wpAny (model prog w) A (setNext S slot i ep) Q E s:=by
 unfold setNext
 refine wB (wpAny_setState_of ho hd hf ?_)
 dsimp only
 unfold setsByText
 refine wB (wB (wpAny_askSetting (wpAny_pure ?_)))
 rw [show (model prog w).w.params.followText "set-order"=true from hb]
 simp only [if_true,bne_self_eq_false,Bool.false_eq_true,if_false]
 unfold setWalk
 refine wB (wB (wpAny_setState_of ho hd hf ?_))
 dsimp only
 unfold setsByText
 refine wB (wB (wpAny_askSetting (wpAny_pure ?_)))
 rw [show (model prog w).w.params.followText "set-order"=true from hb]
 simp only [if_true]
 refine wB (wpAny_askSetting (wpAny_pure ?_))
 exact wpAny_pure q
end
theorem arr1 (a:Array Nat) (h:a.size=1):∃ j,a=#[j]:=by
 obtain ⟨l⟩:=a
 obtain ⟨j,r,rfl⟩:=List.exists_cons_of_length_eq_add_one (n:=0) h
 have e:r=[]:=by simpa using h
 exact ⟨j,by rw [e]⟩
theorem bh4 (j:Nat):SetTable.below #[j] 0=0∧SetTable.below #[j] (j+1)=1:=by
 constructor
 · simp [SetTable.below,SetTable.below.go]
 · simp [SetTable.below,SetTable.below.go]
section
variable {prog:Program}{w:World}{A:Around}{E:Value→Shared→Prop}{s:Shared}{S it tp:Addr}{o:Obj}{es:Array (Int×Value)}{ep i:Nat}{t:SetTable}{first:Value}
theorem b56 {slot:Nat}{Q:Option (Value×Nat)→Shared→Prop}(ho:s.heap.get? S=some o) (hd:o.data=.set es ep t) (hf:t.fits es.size=true) (hb:w.params.followText "set-order"=false) (h1:es.size≤1) (hl:t.led=true)
 (q:Q (match es[SetTable.below t.place slot]?,t.place[SetTable.below t.place slot]? with | some (_,x),some j=>some (x,j+1) | _,_=>none) s):wpAny (model prog w) A (setNext S slot i ep) Q E s:=by
 unfold setNext
 refine wB (wpAny_setState_of ho hd hf ?_)
 dsimp only
 unfold setsByText
 refine wB (wB (wpAny_askSetting (wpAny_pure ?_)))
 rw [show (model prog w).w.params.followText "set-order"=false from hb]
 simp only [Bool.false_eq_true,if_false]
 refine wpAny_ite_split (fun z=>?_) fun _=>?_
 · have z':(!t.plain && decide (es.size > 1))=true:=z
   rw [Bool.and_eq_true,decide_eq_true_eq] at z'
   omega
 show wpAny _ _ ((if (!t.led && !es.isEmpty)=true then unsupported "set:maker-not-led" else pure ()) >>= _) _ _ s
 rw [hl]
 simp only [Bool.not_true,Bool.false_and,Bool.false_eq_true,if_false]
 exact wB (wpAny_pure (wpAny_pure q))
theorem walkD (hh:A.handled=none) {pl:List Nat}(hn1:S≠it) (hn2:tp≠it) (hd:o.data=.set es ep t) (hf:t.fits es.size=true) (pp:pl.Perm (List.range es.size)) :
 Walks prog w A it [it,S,tp] [it] es.size (fun i v=>∃ e,(pl.map fun p=>es.getD p (0,.none))[i]?=some e∧v=e.2) (fun i h=>h.get? it=some (itObj (.ref tp) S i es.size ep)∧h.get? tp=some (plObj pl)∧h.get? S=some o) where
 sub:=fun b hb=>by simp at hb; simp [hb]
 frame:=fun _ _ _ st hk=>⟨hk it (by simp) _ st.1,hk tp (by simp) _ st.2.1,hk S (by simp) _ st.2.2⟩
 item:=fun i s Q E hi st hQ=>by
  have hl:pl.length=es.size:=by rw [pp.length_eq,List.length_range]
  have hp:pl[i]?=some (pl[i]'(by omega)):=gE (by omega)
  have hm:pl[i]'(by omega)<es.size:=List.mem_range.mp (pp.mem_iff.mp (List.getElem_mem _))
  refine b89 st.1 st.2.1 st.2.2 hd hf hp (Array.getElem?_eq_getElem hm) fun h' h1 hs=>hQ _ h' s.toks ⟨_,by rw [gM,hp]; rfl,by simp [Array.getD,hm]⟩ ⟨h1,hs.extBut _ _ hn2 st.2.1,hs.extBut _ _ hn1 st.2.2⟩ fun b o hb e=>hs.extBut b o (fun z=>hb (by simp [z])) e
 done:=fun s Q E st hQ=>by
  have hl:pl.length=es.size:=by rw [pp.length_eq,List.length_range]
  exact bh2 hh st.1 st.2.1 st.2.2 hd hf (List.getElem?_eq_none (by omega)) fun h' he=>hQ h' s.toks fun b o hb e=>he b o (fun z=>hb (by simp [z])) e
 self:=fun _ _ _ _ st hQ=>as7 st.1 hQ
theorem walkT (hh:A.handled=none) (hn1:S≠it) (hd:o.data=.set es ep t) (hf:t.fits es.size=true) (hb:w.params.followText "set-order"=true) :
 Walks prog w A it [it,S,S] [it] es.size (fun i v=>∃ e,((pickOrder (w.params.setOrder S ep) es).toList)[i]?=some e∧v=e.2) (fun i h=>h.get? it=some (itObj (rawInt ((0:Nat):Int)) S i es.size ep)∧h.get? S=some o) where
 sub:=fun b hb=>by simp at hb; simp [hb]
 frame:=fun _ _ _ st hk=>⟨hk it (by simp) _ st.1,hk S (by simp) _ st.2⟩
 item:=fun i s Q E hi st hQ=>by
  have hl:(pickOrder (w.params.setOrder S ep) es).size=es.size:=by
   have:=(aj7 (w.params.setOrder S ep) es).length_eq
   simpa using this
  have hg:(pickOrder (w.params.setOrder S ep) es)[i]?=some ((pickOrder (w.params.setOrder S ep) es)[i]'(by omega)):=Array.getElem?_eq_getElem _
  refine aq4 (slot:=0) (nxt:=0) (x:=((pickOrder (w.params.setOrder S ep) es)[i]'(by omega)).2) st.1 st.2 hd hf (fun q'=>av9 st.2 hd hf hb (by rw [hg]; exact q')) fun h' h1 hs=>hQ _ h' s.toks ⟨_,by rw [Array.getElem?_toList]; exact hg,rfl⟩ ⟨h1,hs.extBut _ _ hn1 st.2⟩ fun b o hb e=>hs.extBut b o (fun z=>hb (by simp [z])) e
 done:=fun s Q E st hQ=>by
  have hl:(pickOrder (w.params.setOrder S ep) es).size=es.size:=by
   have:=(aj7 (w.params.setOrder S ep) es).length_eq
   simpa using this
  exact av8 hh st.1 st.2 hd hf (fun q'=>av9 st.2 hd hf hb (by rw [Array.getElem?_eq_none (by omega)]; exact q')) fun h' he=>hQ h' s.toks fun b o hb e=>he b o (fun z=>hb (by simp [z])) e
 self:=fun _ _ _ _ st hQ=>as7 st.1 hQ
theorem walkL (hh:A.handled=none) (hn1:S≠it) (hd:o.data=.set es ep t) (hf:t.fits es.size=true) (hb:w.params.followText "set-order"=false) (h1:es.size≤1) (hl:t.led=true) :
 Walks prog w A it [it,S,S] [it] es.size (fun i v=>∃ e,es.toList[i]?=some e∧v=e.2) (fun i h=>h.get? it=some (itObj (rawInt ((if i=0 then 0 else t.place.getD 0 0+1:Nat):Int)) S i es.size ep)∧h.get? S=some o) where
 sub:=fun b hb=>by simp at hb; simp [hb]
 frame:=fun _ _ _ st hk=>⟨hk it (by simp) _ st.1,hk S (by simp) _ st.2⟩
 item:=fun i s Q E hi st hQ=>by
  have e0:i=0:=by omega
  subst e0
  have sz:t.place.size=1:=by
   simp only [SetTable.fits,Bool.and_eq_true,beq_iff_eq] at hf
   omega
  obtain ⟨j,hj⟩:=arr1 _ sz
  have he:es[0]?=some (es[0]'(by omega)):=Array.getElem?_eq_getElem _
  refine aq4 (slot:=0) (nxt:=j+1) (x:=(es[0]'(by omega)).2) st.1 st.2 hd hf (fun q'=>b56 st.2 hd hf hb h1 hl (by rw [hj,(bh4 j).1,he]; exact q')) fun h' h1' hs=>hQ _ h' s.toks ⟨_,by rw [Array.getElem?_toList]; exact he,rfl⟩ ⟨by rw [if_neg (by omega),hj]; exact h1',hs.extBut _ _ hn1 st.2⟩ fun b o hb e=>hs.extBut b o (fun z=>hb (by simp [z])) e
 done:=fun s Q E st hQ=>by
  refine av8 hh st.1 st.2 hd hf (fun q'=>b56 st.2 hd hf hb h1 hl ?_) fun h' he=>hQ h' s.toks fun b o hb e=>he b o (fun z=>hb (by simp [z])) e
  by_cases h0:es.size=0
  · rw [Array.getElem?_eq_none (xs:=es) (by omega)]
    exact q'
  · have sz:t.place.size=1:=by
     simp only [SetTable.fits,Bool.and_eq_true,beq_iff_eq] at hf
     omega
    obtain ⟨j,hj⟩:=arr1 _ sz
    rw [if_neg h0,hj]
    rw [show (#[j]:Array Nat).getD 0 0=j from rfl,(bh4 j).2,Array.getElem?_eq_none (xs:=es) (by omega)]
    exact q'
 self:=fun _ _ _ _ st hQ=>as7 st.1 hQ
end
section
variable {prog:Program}{w:World}{A:Around}{E:Value→Shared→Prop}{s:Shared}{S:Addr}{es:Array (Int×Value)}
theorem bq7 {Q:Bool→Shared→Prop}(hT:s.TypeIs (.ref S) "set") (h:Q false s):wpAny (model prog w) A (Builtin.List.listLengthHint (.ref S)) Q E s:=by
 unfold Builtin.List.listLengthHint
 refine wB (wpAny_specialOf hT F.slot_set_len.lookup ?_)
 generalize hid:("set.__len__":String)=id0
 wp_delta
 rw [show splitId id0=some ("set","__len__") from by subst hid; decide +kernel]
 subst hid
 refine wB (wpAny_isInstance (T:="set") (b:=true) hT (by rw [isSubtype_type]; kernel_rfl) ?_)
 refine wpAny_ite_split (fun hab=>absurd hab (by decide)) (fun _=>?_)
 refine wpAny_ite_split (fun _=>?_) (fun hab=>absurd (by decide +kernel) hab)
 refine wB (wpAny_typeOf hT ?_)
 exact wpAny_pure h
theorem as8 {R:Result→Shared→Prop}{I L:Addr}{fp:List Addr}{n c0:Nat}{P:Nat→Value→Prop}{St:Nat→Heap→Prop}{res:Value}{cnd:Bool}(W:Walks prog w A.in1 I fp [I] n P St) (hn:n≤sizeLine) (hLf:L∉fp) (hI:I∈fp) (hT:s.TypeIs (.ref S) "set") (hS:S∈fp)
 (st:St 0 s.heap) (hL:s.heap.get? L=some { cls:=.type "list",data:=.seq #[] c0 })
 (hR:∀ h' tk acc c',(∀ b o,b≠L→b≠I→s.heap.get? b=some o→h'.get? b=some o)→h'.get? L=some { cls:=.type "list",dict:=none,data:=.seq acc c',slots:=#[] }→ItemsOf P acc n→R (.ok (.ret res)) { s with heap:=h',toks:=tk }) :
 wpAny (model prog w) A.in1 (do
  let room←holding [.ref I] (Builtin.List.listLengthHint (.ref S))
  if (room || cnd)=true then do
   rule "list.extend.makes-room"
   Builtin.List.listTouch (.ref L)
   again (.builtin "list.extend.loop" ⟨[.ref L,.ref I,res],[]⟩)
   else again (.builtin "list.extend.loop" ⟨[.ref L,.ref I,res],[]⟩))
  (fun fin s'=>match fin with | .done f=>R (.ok f) s' | .again c'=>c'.quiet=true∧codeAny (model prog w) A c' R s') (fun e s'=>R (.error e) s') s:=by
 have key:∀ (h:Heap) (c1:Nat),St 0 h→(∀ b o,b≠L→s.heap.get? b=some o→h.get? b=some o)→h.get? L=some { cls:=.type "list",data:=.seq #[] c1 }→codeAny (model prog w) A (.builtin "list.extend.loop" ⟨[.ref L,.ref I,res],[]⟩) R { s with heap:=h }:=by
  intro h c1 hst hk hL1
  refine codeAny_extend_loopS W.toS hn L hLf res n 0 _ #[] c1 rfl (Nat.zero_le _) hst hL1 (ItemsOf.nil _) fun s' acc' c' hm hL' hacc=>?_
  rw [Moved.eq_with hm]
  refine hR s'.heap s'.toks acc' c' (fun b o hb hbI e=>hm.heap b o (fun z=>?_) (hk b o hb e)) hL' hacc
  rcases List.mem_cons.mp z with z | z
  · exact hb z
  · exact hbI (gG z)
 refine wB (wpAny_holding (bq7 hT ?_))
 refine wpAny_ite_split (fun _=>?_) (fun _=>wpAny_pure ⟨plainId_quiet PySem.F.plain_extend_loop _,key _ c0 st (fun b o _ e=>e) hL⟩)
 refine wB (wpAny_rule (wB ?_))
 show wpAny _ _ (updateSeq L (·.push .none) >>= fun _=>updateSeq L (·.pop)) _ _ _
 refine wB (wpAny_updateSeq hL rfl ?_)
 have hL2:=Heap.get?_update_self (Obj.mapSeq (·.push Value.none)) hL rfl
 refine wpAny_updateSeq (hz:=by seq_fits) hL2 rfl ?_
 have hL3:=Heap.get?_update_self (Obj.mapSeq (·.pop)) hL2 rfl
 have hk:∀ b o,b≠L→s.heap.get? b=some o→((s.heap.update L (Obj.mapSeq (·.push Value.none))).update L (Obj.mapSeq (·.pop))).get? b=some o:=fun b o hb e=>(Heap.get?_update_other _ _ (Ne.symm hb)).trans ((Heap.get?_update_other _ _ (Ne.symm hb)).trans e)
 exact wpAny_pure ⟨plainId_quiet PySem.F.plain_extend_loop _,key _ _ (W.frame 0 _ _ st fun b hb o e=>hk b o (fun z=>hLf (z ▸ hb)) e) hk hL3⟩
theorem am9 {ord:List (Int×Value)}{acc:Array Value}{n:Nat}(h:ItemsOf (fun i v=>∃ e,ord[i]?=some e∧v=e.2) acc n) (hl:ord.length=n):acc.toList=ord.map (·.2):=by
 apply List.ext_getElem?
 intro j
 rw [gM]
 by_cases hj:j<n
 · have hj':j<acc.size:=by rw [h.1]; exact hj
   obtain ⟨e,h1,h2⟩:=h.2 j acc[j] (Array.getElem?_eq_getElem hj')
   rw [h1,Array.getElem?_toList,Array.getElem?_eq_getElem hj',h2]
   rfl
 · have:=h.1
   rw [Array.getElem?_toList,Array.getElem?_eq_none (by omega),List.getElem?_eq_none (by omega)]
   rfl
theorem b90 (es:Array (Int×Value)) (d:Int×Value):(List.range es.size).map (fun p=>es.getD p d)=es.toList:=by
 apply List.ext_getElem
 · simp
 · intro j h1 h2
   have hj:j<es.size:=by simpa using h2
   simp [Array.getD,hj]
theorem b91 {R:Result→Shared→Prop}{L:Addr}{c0:Nat}{res:Value}(hh:A.handled=none) (hS:SStr prog w s.heap S es) (hne:L≠S) (hL:s.heap.get? L=some { cls:=.type "list",data:=.seq #[] c0 })
 (hR:∀ h' tk d acc c',(∀ b o,b≠L→s.heap.get? b=some o→h'.get? b=some o)→h'.get? L=some { cls:=.type "list",dict:=none,data:=.seq acc c',slots:=#[] }→acc.toList.Perm (es.toList.map (·.2))→R (.ok (.ret res)) { s with heap:=h',toks:=tk,drawn:=d }) :
 wpAny (model prog w) A.in1 (Builtin.List.listExtendWith (.ref L) (.ref S) res)
  (fun fin s'=>match fin with | .done f=>R (.ok f) s' | .again c'=>c'.quiet=true∧codeAny (model prog w) A c' R s') (fun e s'=>R (.error e) s') s:=by
 obtain ⟨⟨o,ep,t,ho,hx,hd,hf,hl,hp⟩,hel,hlt⟩:=hS
 have T:s.TypeIs (.ref S) "set":=⟨o,ho,hx.1⟩
 have hn:es.size≤sizeLine:=fits_of_scanBound hlt
 have lS:=Heap.lt_size ho
 have lL:=Heap.lt_size hL
 have hh1:A.in1.handled=none:=hh
 unfold Builtin.List.listExtendWith
 refine wB (wpAny_typeOf (T:="set") T ?_)
 have h1:Builtin.List.listSameRef (.ref L) (.ref S)=false:=by simp [Builtin.List.listSameRef,hne]
 simp only [h1,show (Value.type "set" == Value.type "list")=false by decide,show (Value.type "set" == Value.type "tuple")=false by decide,Bool.or_false,Bool.false_eq_true,if_false]
 refine wB (bq6 ho hx hd hf hlt (fun hD=>?_) (fun hD pl d pp=>?_))
 · have nf:L∉[s.heap.objs.size,S,S]:=by
    simp only [List.mem_cons,List.not_mem_nil,or_false,not_or]
    exact ⟨Nat.ne_of_lt lL,hne,hne⟩
   have T1:Shared.TypeIs { s with heap:=s.heap.push (itObj (rawInt 0) S 0 es.size ep) } (.ref S) "set":=⟨o,gP _ ho,hx.1⟩
   by_cases hb:w.params.followText "set-order"=true
   · refine as8 (walkT hh1 (Nat.ne_of_lt lS) hd hf hb) hn nf (by simp) T1 (by simp) ⟨Heap.get?_push_size _ rfl,gP _ ho⟩ (gP _ hL) fun h' tk acc c' hk hL' hit=>?_
     have pl:=(aj7 (w.params.setOrder S ep) es).length_eq
     refine hR h' tk s.drawn acc c' (fun b o hb e=>hk b o hb (Nat.ne_of_lt (Heap.lt_size e)) (gP _ e)) hL' ?_
     rw [am9 hit (by simpa using pl)]
     exact (aj7 _ _).map _
   · have hb':w.params.followText "set-order"=false:=by simpa using hb
     have h1':es.size≤1:=by
      by_cases h0:es.size≤1
      · exact h0
      · have:=hp (by omega)
        unfold Drw at hD
        rw [hb',this] at hD
        simp at hD
        omega
     refine as8 (walkL hh1 (Nat.ne_of_lt lS) hd hf hb' h1' (by rw [hl,hb']; rfl)) hn nf (by simp) T1 (by simp) ⟨Heap.get?_push_size _ rfl,gP _ ho⟩ (gP _ hL) fun h' tk acc c' hk hL' hit=>?_
     refine hR h' tk s.drawn acc c' (fun b o hb e=>hk b o hb (Nat.ne_of_lt (Heap.lt_size e)) (gP _ e)) hL' ?_
     rw [am9 hit (by simp)]
 · have gt:∀ b:Addr,b<s.heap.objs.size→b≠(s.heap.push (plObj pl)).objs.size:=fun b z=>by
    rw [Heap.size_push]
    exact Nat.ne_of_lt (Nat.lt_succ_of_lt z)
   have gt2:s.heap.objs.size≠(s.heap.push (plObj pl)).objs.size:=by
    rw [Heap.size_push]
    exact Nat.ne_of_lt (Nat.lt_succ_self _)
   have nf:L∉[(s.heap.push (plObj pl)).objs.size,S,s.heap.objs.size]:=by
    simp only [List.mem_cons,List.not_mem_nil,or_false,not_or]
    exact ⟨gt L lL,hne,Nat.ne_of_lt lL⟩
   have up:∀ b ob,s.heap.get? b=some ob→((s.heap.push (plObj pl)).push (itObj (.ref s.heap.objs.size) S 0 es.size ep)).get? b=some ob:=fun b ob e=>gP _ (gP _ e)
   refine as8 (s:={ s with heap:=(s.heap.push (plObj pl)).push (itObj (.ref s.heap.objs.size) S 0 es.size ep),drawn:=d }) (walkD hh1 (gt S lS) gt2 hd hf pp) hn nf (by simp) ⟨o,up _ _ ho,hx.1⟩ (by simp) ⟨Heap.get?_push_size _ rfl,gP _ (Heap.get?_push_size _ rfl),up _ _ ho⟩ (up _ _ hL) fun h' tk acc c' hk hL' hit=>?_
   have ln:pl.length=es.size:=by rw [pp.length_eq,List.length_range]
   refine hR h' tk d acc c' (fun b o hb e=>hk b o hb (gt b (Heap.lt_size e)) (up _ _ e)) hL' ?_
   rw [am9 hit (by simpa using ln),←b90 es (0,.none)]
   exact (pp.map _).map _
end
section
variable {prog:Program}{w:World}{A:Around}{E:Value→Shared→Prop}{s:Shared}{S:Addr}{es:Array (Int×Value)}
theorem az9 {R:List Value→Shared→Prop}(hh:A.handled=none) (hS:SStr prog w s.heap S es)
 (h:∀ (h':Heap) (tk:Nat) (d:Drawn) (acc:Array Value),(∀ b o,s.heap.get? b=some o→h'.get? b=some o)→s.heap.objs.size<h'.objs.size→acc.toList.Perm (es.toList.map (·.2))→R acc.toList { s with heap:=h',toks:=tk,drawn:=d }) :
 wpAny (model prog w) A (collect (.ref S)) R E s:=by
 obtain ⟨o,ep,t,ho,_⟩:=hS.ex
 have lS:=Heap.lt_size ho
 unfold collect
 refine wB (wpAny_runValue (codeAny_builtin entry_proto_collect' ?_))
 rw [Around.under_plainId PySem.F.plain_proto_collect _]
 show wpAny _ A.in1 (newList [] >>= fun l=>again (.builtin "list.__iadd__" ⟨[l,.ref S],[]⟩)) _ _ s
 refine wB (wpAny_newObj_type (wpAny_pure ⟨plainId_quiet PySem.F.plain_list_iadd _,codeAny_builtin entry_list_iadd' ?_⟩))
 rw [Around.under_plainId PySem.F.plain_list_iadd _]
 have hL:(s.heap.push { cls:=.type "list",data:=.seq ([]:List Value).toArray }).get? s.heap.objs.size=some { cls:=.type "list",data:=.seq #[] }:=Heap.get?_push_size _ rfl
 show wpAny _ A.in1 (Builtin.List.listExtendWith (.ref s.heap.objs.size) (.ref S) (.ref s.heap.objs.size)) _ _ _
 have key:=b91 (A:=A) (s:={ s with heap:=s.heap.push { cls:=.type "list",data:=.seq ([]:List Value).toArray } }) (L:=s.heap.objs.size) (c0:=0) (res:=.ref s.heap.objs.size) (es:=es) (S:=S) (w:=w) (prog:=prog)
  (R:=fun (q:Result) (s':Shared)=>∃ (h':Heap) (tk:Nat) (d:Drawn) (acc:Array Value) (c':Nat),q=.ok (.ret (.ref s.heap.objs.size))∧s'={ s with heap:=h',toks:=tk,drawn:=d }∧(∀ b o,s.heap.get? b=some o→h'.get? b=some o)∧h'.get? s.heap.objs.size=some { cls:=.type "list",dict:=none,data:=.seq acc c',slots:=#[] }∧acc.toList.Perm (es.toList.map (·.2)))
  hh (hS.moved fun o e=>gP _ e) (Nat.ne_of_gt lS) hL
  (fun h' tk d acc c' hk hL' hp=>⟨h',tk,d,acc,c',rfl,rfl,fun b o e=>hk b o (Nat.ne_of_lt (Heap.lt_size e)) (gP _ e),hL',hp⟩)
 refine wpAny_mono key (fun fin s' x=>?_) fun e s' x=>?_
 · cases fin with
   | done f =>
     obtain ⟨h',tk,d,acc,c',e,rfl,hk,hL',hp⟩:=x
     cases e
     show wpAny _ A (load s.heap.objs.size >>= _) _ _ _
     exact wB (wpAny_load hL' (wpAny_pure (h h' tk d acc hk (Heap.lt_size hL') hp)))
   | again c1 =>
     refine ⟨x.1,codeAny_mono x.2 fun q s2 y=>?_⟩
     obtain ⟨h',tk,d,acc,c',rfl,rfl,hk,hL',hp⟩:=y
     show wpAny _ A (load s.heap.objs.size >>= _) _ _ _
     exact wB (wpAny_load hL' (wpAny_pure (h h' tk d acc hk (Heap.lt_size hL') hp)))
 · obtain ⟨_,_,_,_,_,e',_⟩:=x
   cases e'
theorem b00 {α β:Type}{f:α→β}{xs ys:List β}(h:xs.Perm ys):∀ l:List α,ys=l.map f→∃ l':List α,l'.Perm l∧xs=l'.map f:=by
 induction h with
 | nil =>
   intro l hl
   exact ⟨l,List.Perm.refl _,hl⟩
 | cons x _ ih =>
   intro l hl
   cases l with
   | nil=>simp at hl
   | cons y l =>
     rw [List.map_cons,List.cons.injEq] at hl
     obtain ⟨l',p,e⟩:=ih l hl.2
     exact ⟨y::l',p.cons y,by rw [List.map_cons,←hl.1,e]⟩
 | swap x y zs =>
   intro l hl
   match l,hl with
   | a::b::l,hl =>
     rw [List.map_cons,List.map_cons,List.cons.injEq,List.cons.injEq] at hl
     exact ⟨b::a::l,List.Perm.swap _ _ _,by rw [List.map_cons,List.map_cons,←hl.1,←hl.2.1,hl.2.2]⟩
 | trans _ _ ih1 ih2 =>
   intro l hl
   obtain ⟨l2,p2,e2⟩:=ih2 l hl
   obtain ⟨l1,p1,e1⟩:=ih1 l2 e2
   exact ⟨l1,p1.trans p2,e1⟩
theorem strs_of:∀ {l:List (Str×Tok)}{vs:List Value},vs=l.map (fun x=>(entS w x).2)→StrsAre vs (l.map (·.1))
 | [],_,rfl=>.nil
 | x::l,_,rfl=>.cons x.1 x.2 (strs_of rfl)
theorem b92 {ks:List Str}{Q:Value→Shared→Prop}(hh:A.handled=none) (hS:SStr prog w s.heap S es) (hK:KsOf w es ks) (h64:ks.length<64)
 (h:∀ (D:Addr) (h':Heap) (tk:Nat) (d:Drawn) (vs:List Value) (ss:List Str) (e:Nat),(∀ b o,s.heap.get? b=some o→h'.get? b=some o)→s.heap.objs.size≤D→h'.get? D=some (seqObj "list" vs.toArray e)→StrsAre vs ss→ss.Perm ks→sortedS ss=true→Q (.ref D) { s with heap:=h',toks:=tk,drawn:=d }) :
 wpAny (model prog w) A (call (.builtin "sorted") [.ref S]) Q E s:=by
 refine Calls.call_function_entry kind_sorted plain_sorted entry_sorted (args_sorted1 _) ?_
 unfold Builtin.«sorted»
 refine wB (m:=checkCount "sorted" 1 1 _) (wpAny_pure ?_)
 refine wB (az9 hh hS fun h' tk d acc hk hsz hp=>?_)
 obtain ⟨nd,l,rfl,pp⟩:=hK
 have p2:acc.toList.Perm (l.map fun x=>(entS w x).2):=hp.trans (by have:=pp.map (·.2); rw [List.map_map] at this; exact this)
 have ln:acc.toList.length=l.length:=by rw [p2.length_eq,gL]
 have hl64:acc.toList.length<64:=by rw [ln]; simpa using h64
 obtain ⟨l',p3,e3⟩:=b00 p2 l rfl
 have hst:=strs_of (w:=w) e3
 refine wB (wpAny_newList ?_ (by have:64≤sizeLine:=le_line (by decide); omega))
 have hD:(h'.push (seqObj "list" acc.toList.toArray 0)).get? h'.objs.size=some (seqObj "list" acc.toList.toArray 0):=Heap.get?_push_size _ rfl
 show wpAny _ _ _ _ _ { s with heap:=h'.push (seqObj "list" acc.toList.toArray 0),toks:=tk,drawn:=d }
 refine wB (wpAny_holding (wpAny_call_entry PyProof.Rows.slot_list_sort ⟨_,hD,rfl⟩ PyProof.Rows.entry_list_sort (list_sort_treeK strKind_oneLt hD hst.keysOf (fun v1 v2 rest e=>keyKind_strs (by rw [← e]; exact hst)) hl64 fun st' a1 a2=>⟨_,rfl,?_⟩) (args_list_sort _)))
 obtain ⟨ss',b1,b2,b3⟩:=sorted_out_str hst a1 a2
 obtain ⟨e,he⟩:=sortedHeap_at (h:=h'.push (seqObj "list" acc.toList.toArray 0)) (a:=h'.objs.size) (vs:=acc.toList) (out:=(arrOf st').map (·.2)) (n:=0) hD
 have lt:∀ b o,s.heap.get? b=some o→b<h'.objs.size:=fun b o e=>Heap.lt_size (hk b o e)
 refine wpAny_pure ⟨_,rfl,h h'.objs.size _ tk d ((arrOf st').map (·.2)).toList ss' e (fun b o e=>?_) ?_ (by rw [Array.toArray_toList]; exact he) b1 (b2.trans (p3.map _)) b3⟩
 · have:=lt b o e
   rw [sortedHeap_old (Nat.ne_of_lt this) (by rw [size_push']; exact Nat.lt_succ_of_lt this)]
   exact gP _ (hk b o e)
 · exact Nat.le_of_lt hsz
end
theorem Inv.drw {X:Cx}{pins:List (Addr×Obj)}{σ:List (Option V)} {H:Hp}{s:Shared}(I:Inv X pins σ H s) (d:Drawn):Inv X pins σ H { s with drawn:=d }:=⟨I.ok,I.os,I.bare,I.base,I.loc,I.cell,I.free,I.freeC,I.pin,I.hok,I.len⟩
def setφ (P:Program) (w:World) (p:Addr) (ks:List Str):Heap→Prop:=fun h=>∃ es,SStr P w h p es∧KsOf w es ks
def SetAt (P:Program) (w:World) (H:Hp) (p:Addr) (ks:List Str):Prop:=H p=some (.ext (setφ P w p ks))
def rSetS (K:W.Frag) (P:Program) (w:World):List V→Hp→VK→Prop:=fun vs H Q=>∃ a ss,vs=[V.ref a]∧SqL K H a (strsV ss)∧ss.length+1<4096∧∀ p H' ks,H p=none→Same H H'→SetAt P w H' p ks→ks.Nodup→(∀ x,x∈ks↔x∈ss)→Q (.ref p) H'
def rSortS (P:Program) (w:World):List V→Hp→VK→Prop:=fun vs H Q=>∃ p ks,vs=[V.ref p]∧SetAt P w H p ks∧ks.length<64∧∀ q out H',H q=none→Same H H'→H' q=some (.lst (strsV out))→out.Perm ks→sortedS out=true→Q (.ref q) H'
theorem aq5:∀ {ss:List Str}{us:List Value},Vals (strsV ss) us→∀ (i:Nat) (v:Value),us[i]?=some v→∃ t,v=Value.str (ss.getD i ⟨#[]⟩) t
 | [],us,h,i,v,e=>by
   cases h
   simp at e
 | x::ss,us,h,i,v,e=>by
   cases h with
   | cons h1 h2 =>
     obtain ⟨t,rfl⟩:=h1
     cases i with
     | zero =>
       simp at e
       exact ⟨t,by rw [← e]; rfl⟩
     | succ i=>exact aq5 h2 i v (by simpa using e)
theorem aw0:∀ {vs:List Value}{ss:List Str},StrsAre vs ss→Vals (strsV ss) vs
 | _,_,.nil=>.nil
 | _,_,.cons y t h=>.cons ⟨t,rfl⟩ (aw0 h)
theorem bh5 (ss:List Str) (x:Str):x∈firstS (fun i=>ss.getD i ⟨#[]⟩) ss.length↔x∈ss:=by
 rw [aq2]
 constructor
 · rintro ⟨j,hj,rfl⟩
   rw [List.getD_eq_getElem?_getD,gE hj]
   exact List.getElem_mem hj
 · intro hx
   obtain ⟨j,hj,rfl⟩:=List.mem_iff_getElem.mp hx
   exact ⟨j,hj,by rw [List.getD_eq_getElem?_getD,gE hj]; rfl⟩
theorem ao0 (val:Nat→Str):∀ i,(firstS val i).Nodup
 | 0=>by simp [firstS]
 | i+1=>by
   rw [af5]
   unfold metS
   split
   · exact ao0 val i
   · next h =>
     refine List.nodup_append.mpr ⟨ao0 val i,by simp,fun a ha b hb z=>?_⟩
     rw [gG hb] at z
     exact h (z ▸ ha)
section
variable {X:Cx}{P:Program}{w:World}
theorem bz6 (K:W.Frag) (hP:X.prog=P) (hw:X.w=w) (hc:X.calm=true) (hK:X.K=K:=by rfl):CallR X (.type "set") (rSetS K P w):=by
 subst hP hw hK
 intro pins s σ H xs us Q I r h
 obtain ⟨a,ss,rfl,hS,hl,q⟩:=h
 cases r with
 | cons r1 r2 =>
 cases r2
 cases r1
 obtain ⟨its,v1,p1,z⟩:=I.list hS
 have hlen:its.length=ss.length:=by
  have:=v1.length
  simpa [strsV] using this.symm
 have hb:its.toArray.size+1<scanBound:=by
  rw [List.size_toArray,hlen]
  exact hl
 refine as6 (I.ok.hd hc) p1.isList (val:=fun i=>ss.getD i ⟨#[]⟩) (fun i v e=>aq5 v1 i v (by rw [List.getElem?_toArray] at e; exact e)) hb fun h' tk es hs hk keep=>?_
 rw [List.size_toArray,hlen] at hk
 have kp:∀ b u,s.heap.get? b=some u→h'.get? b=some u:=fun b u e=>keep b u (Heap.lt_size e) e
 have hp:=I.hok.fresh (Nat.le_refl s.heap.objs.size)
 obtain ⟨o,ep,t,ho,_⟩:=hs.ex
 have I2:=I.laid (h':=h') (t':=tk) (a:=s.heap.objs.size) (o:=.ext (setφ X.prog X.w s.heap.objs.size (firstS (fun i=>ss.getD i ⟨#[]⟩) ss.length))) kp (Nat.le_refl _) ⟨⟨es,hs,hk⟩,⟨o,ho⟩,fun h1 h2 ⟨es',a1,a2⟩ z=>⟨es',a1.moved z,a2⟩⟩
 exact ⟨.ref s.heap.objs.size,_,I2,rfl,q _ _ _ hp (Same.new hp) a41 (ao0 _ _) (bh5 ss)⟩
theorem bq8 (hP:X.prog=P) (hw:X.w=w) (hc:X.calm=true):CallR X (.builtin "sorted") (rSortS P w):=by
 subst hP hw
 intro pins s σ H xs us Q I r h
 obtain ⟨p,ks,rfl,hS,h64,q⟩:=h
 cases r with
 | cons r1 r2 =>
 cases r2
 cases r1
 obtain ⟨⟨es,hs,hk⟩,_⟩:=(show ObjOk X.prog X.w H s.heap p (.ext (setφ X.prog X.w p ks)) from I.hok p _ hS)
 refine b92 (I.ok.hd hc) hs hk h64 fun D h' tk d vs ss e kp hD hl hv pm so=>?_
 have hp:=I.hok.fresh hD
 have ln:ss.length=ks.length:=pm.length_eq
 have I2:=(I.drw d).laid (h':=h') (t':=tk) (a:=D) (o:=.lst (strsV ss)) kp hD ⟨by simp [strsV]; exact Nat.le_trans (by omega) (le_line (show 64≤1000000 by decide)),vs,e,aw0 hv,hl⟩
 exact ⟨.ref D,_,I2,rfl,q D ss _ hp (Same.new hp) a41 pm so⟩
end
section
variable {X:Cx}
end
def rIsntT:R2:=fun x y H Q=>x=.bl true∧y=.bl true∧Q (.bl false) H
theorem bh6 {X:Cx}:OpR X (compareOp .IsNot) rIsntT:=by
 intro pins s σ H x y v u Q I rx ry h
 obtain ⟨rfl,rfl,q⟩:=h
 cases rx
 cases ry
 exact wpAny_isNot_plain rfl ⟨.bl _,H,I,rfl,q⟩
theorem bz7 {H:Hp}{Q:VK}(h:Q (.bl false) H):rIsntT (.bl true) (.bl true) H Q:=⟨rfl,rfl,h⟩
section
variable {rs:List RRoom}{many:Nat}{p:Pr}
variable {N k:Nat}{dv:Pr→Option Nat}
end
section
variable {prog:Program}{w:World}{A:Around}{E:Value→Shared→Prop}{s:Shared}
end
section
variable {X:Cx}{P:Params}
end
section
variable {prog:Program}{w:World}{A:Around}{R:Result→Shared→Prop}{J:Addr}{fp wr:List Addr}{n:Nat}{P:Nat→Value→Prop}{St:Nat→Heap→Prop}
end
section
variable {prog:Program}{w:World}{A:Around}{E:Value→Shared→Prop}{s:Shared}
end
section
variable {X:Cx}{e d:Expr}{t tk:TA}{p kp pos:Pos}
end
section
variable {X:Cx}
end
def bh7 (C1 C2:Addr) (m:Str) (sp1 sp2:Sp) (ta:TE) (t:TA):TE:=fun σ H Q=>ta σ H fun x H1=>∃ a C dx fs sp,x=.ref a∧H1 a=some (.ins C dx fs)∧fs.lookup m=none∧((C=C1∧sp=sp1)∨(C=C2∧sp=sp2))∧t σ H1 fun vs H2=>sp (x::(vs++[])) H2 Q E0
section
variable {X:Cx}{k k':Nat}{f f' C C':Addr}{fd fd':FuncData}{ps ps':List Str}{sp sp':Sp}{m:Str}{pos apos:Pos}{e o:Expr}{es:List Expr}{ta:TE}{t:TA}
theorem b57 {pl:Sem Bool}(he:PE X o ta) (c:Cls X.K C) (hm:Meth X.K C m f) (F:FnOk X.prog X.w X.K X.mg X.base CX0 k f fd ps sp) (hr:Room k X.A) (hb:Binds X.K fd ps []) (c':Cls X.K C') (hm':Meth X.K C' m f') (F':FnOk X.prog X.w X.K X.mg X.base CX0 k' f' fd' ps' sp') (hr':Room k' X.A) (hb':Binds X.K fd' ps' []) (ha:PA X (e::es) t)
 (hst:starEach (e::es) X.env=(false,eval e X.env)::starEach es X.env:=by rfl) (hpl:(backTo pos (starEach es X.env)).any (·.1)=false:=by rfl)
 (ht:eval (.Call (.Attribute o m apos) (e::es) [] pos) X.env=(do
  let ov←eval o X.env
  standAt apos.atName
  let (f,first)←holding [ov] (getMethod ov m pl)
  callWith pos f first (backTo pos (starEach (e::es) X.env)) (backToKw pos (keywordEach [] X.env))):=by rfl) :
 PE X (.Call (.Attribute o m apos) (e::es) [] pos) (bh7 C C' m sp sp' ta t):=by
 intro pins s σ H Q I h
 refine W.methodCall_KW (pl:=pl) (thn (he pins s σ H _ I h) fun u s1 ⟨x,H1,I1,rx,a,D,dx,fs,sq,ex,ea,l,hD,q⟩=>?_) ht
 subst ex
 obtain rfl:u=Value.ref a:=rx
 rcases hD with ⟨rfl,rfl⟩ | ⟨rfl,rfl⟩
 · refine ae0 I1 ea c hm l ?_
   refine W.callWith_K (first:=[.ref a]) (h₀:=X.base) I.ok.mod.kin hm.kp (thn (ha pos pins s1 σ H1 _ I1 q) fun us s2 ⟨vs,H2,I2,r,q2⟩=>⟨I2.kIn,?_⟩) hst hpl
   exact am1 (us:=.ref a::us) (vs:=.ref a::vs) (dvs:=[]) F hr hb .nil a55 I2 (.cons rfl r) q2
 · refine ae0 I1 ea c' hm' l ?_
   refine W.callWith_K (first:=[.ref a]) (h₀:=X.base) I.ok.mod.kin hm'.kp (thn (ha pos pins s1 σ H1 _ I1 q) fun us s2 ⟨vs,H2,I2,r,q2⟩=>⟨I2.kIn,?_⟩) hst hpl
   exact am1 (us:=.ref a::us) (vs:=.ref a::vs) (dvs:=[]) F' hr' hb' .nil a55 I2 (.cons rfl r) q2
theorem bh8 {pl:Sem Bool}(he:PE X o ta) (c:Cls X.K C) (hm:Meth X.K C m f) (F:FnOk X.prog X.w X.K X.mg X.base CX0 k f fd ps sp) (hr:Room k X.A) (hb:Binds X.K fd ps []) (c':Cls X.K C') (hm':Meth X.K C' m f') (F':FnOk X.prog X.w X.K X.mg X.base CX0 k' f' fd' ps' sp') (hr':Room k' X.A) (hb':Binds X.K fd' ps' [])
 (ht:eval (.Call (.Attribute o m apos) [] [] pos) X.env=(do
  let ov←eval o X.env
  standAt apos.atName
  let (f,first)←holding [ov] (getMethod ov m pl)
  callWith pos f first (backTo pos (starEach [] X.env)) (backToKw pos (keywordEach [] X.env))):=by rfl) :
 PE X (.Call (.Attribute o m apos) [] [] pos) (bh7 C C' m sp sp' ta tNil):=by
 intro pins s σ H Q I h
 refine W.methodCall_KW (pl:=pl) (thn (he pins s σ H _ I h) fun u s1 ⟨x,H1,I1,rx,a,D,dx,fs,sq,ex,ea,l,hD,q⟩=>?_) ht
 subst ex
 obtain rfl:u=Value.ref a:=rx
 rcases hD with ⟨rfl,rfl⟩ | ⟨rfl,rfl⟩
 · refine ae0 I1 ea c hm l ?_
   exact W.callWith_K0 (first:=[.ref a]) I1.kIn hm.kp (am1 (us:=[.ref a]) (vs:=[.ref a]) (dvs:=[]) F hr hb .nil a55 I1 (.cons rfl .nil) q)
 · refine ae0 I1 ea c' hm' l ?_
   exact W.callWith_K0 (first:=[.ref a]) I1.kIn hm'.kp (am1 (us:=[.ref a]) (vs:=[.ref a]) (dvs:=[]) F' hr' hb' .nil a55 I1 (.cons rfl .nil) q)
end
section
variable {σ:St} {H:Hp}{Q:VK}{ta:TE}{t:TA}{m:Str}{C1 C2:Addr}{sp1 sp2:Sp}
theorem bz8 (h:ta σ H fun x H1=>∃ a C dx fs sp,x=.ref a∧H1 a=some (.ins C dx fs)∧fs.lookup m=none∧((C=C1∧sp=sp1)∨(C=C2∧sp=sp2))∧t σ H1 fun vs H2=>sp (x::(vs++[])) H2 Q E0):bh7 C1 C2 m sp1 sp2 ta t σ H Q:=h
end
section
variable {X:Cx}{tg:Expr}
end
section
variable {σ:St} {H:Hp}{R:It→Hp→Prop}{ts:TA}
end
inductive PrT (H:Hp):List V→List (Tr×V)→Prop
 | nil:PrT H [] []
 | cons {p:Addr}{t:Tr}{y v:V}{vs:List V}{kvs:List (Tr×V)}:H p=some (.tup [y,v])→TK H t y→PrT H vs kvs→PrT H (.ref p::vs) ((t,v)::kvs)
theorem PrT.mono {H H':Hp}(k:Tups H H') {vs:List V}{kvs:List (Tr×V)}(h:PrT H vs kvs):PrT H' vs kvs:=by
 induction h with
 | nil=>exact .nil
 | cons e a _ ih=>exact .cons (k _ _ e) (a.mono k) ih
theorem PrT.snoc {H:Hp}{vs:List V}{kvs:List (Tr×V)}{p:Addr}{t:Tr}{y v:V}(h:PrT H vs kvs) (e:H p=some (.tup [y,v])) (a:TK H t y):PrT H (vs++[.ref p]) (kvs++[(t,v)]):=by
 induction h with
 | nil=>exact .cons e a .nil
 | cons e' a' _ ih=>exact .cons e' a' ih
theorem PrT.len {H:Hp}{vs:List V}{kvs:List (Tr×V)}(h:PrT H vs kvs):kvs.length=vs.length:=by
 induction h with
 | nil=>rfl
 | cons _ _ _ ih=>simp [ih]
theorem PrT.at_ {H:Hp}{vs:List V}{kvs:List (Tr×V)}(h:PrT H vs kvs):∀ (j:Nat) (x:V),vs[j]?=some x→∃ p t y v,x=.ref p∧H p=some (.tup [y,v])∧TK H t y∧kvs[j]?=some (t,v):=by
 induction h with
 | nil=>intro j x e; simp at e
 | cons e a _ ih =>
   intro j x ej
   cases j with
   | zero=>simp at ej; exact ⟨_,_,_,_,ej.symm,e,a,rfl⟩
   | succ j=>exact ih j x (by simpa using ej)
noncomputable def mergeT (kvs:List (Tr×V)) (ps:List (Tr×V)):List (Tr×V):=ps.foldl (fun k x=>putK k x.1 x.2) kvs
def rDictPT (P:Params) (K:W.Frag):List V→Hp→VK→Prop:=fun xs H Q=>∃ l vs kvs,xs=[.ref l]∧SqL K H l vs∧PrT H vs kvs∧∀ p o,H p=none→DtAt P (upd H p o) p (mergeT [] kvs)→Q (.ref p) (upd H p o)
section
variable {X:Cx}{P:Params}
theorem as9 {H:Hp}{a:Addr}{o o':HO}:upd (upd H a o) a o'=upd H a o':=by
 funext b
 by_cases h:b=a
 · subst h; rw [a41,a41]
 · rw [a09 h,a09 h,a09 h]
theorem loopT {A:Around}{R:Result→Shared→Prop}{pins:List (Addr×Obj)}{σ:St} {H:Hp}{d it l:Addr}{vs:List V}{ps:List (Tr×V)}{res:Value}(hu:A.units+20<cLine) (hA:A.handled=none) (hq:SqL X.K H l vs) (hp:PrT H vs ps) (hdH:H d=none) (hdi:d≠it) (fi:FpOk X pins H it) :
 ∀ (n i:Nat) (s:Shared) (kvs:List (Tr×V)) (o:HO),vs.length - i=n→i≤vs.length→s.heap.IsListIter it l i→Inv X pins σ (upd H d o) s→DtAt X.w.params (upd H d o) d kvs→kvs.length+n≤sizeLine →
 (∀ o' s',Inv X pins σ (upd H d o') s'→DtAt X.w.params (upd H d o') d (mergeT kvs (ps.drop i))→R (.ok (.ret res)) s') →
 codeAny (model X.prog X.w) A (.builtin "dict.update.loop" ⟨[.ref d,.ref it,rawInt i,res],[]⟩) R s:=by
 have sd:∀ o,Same H (upd H d o):=fun o=>Same.new hdH
 have fi':∀ o,FpOk X pins (upd H d o) it:=fun o=>⟨by rw [a09 (Ne.symm hdi)]; exact fi.1,fi.2⟩
 intro n
 induction n with
 | zero =>
   intro i s kvs o hn hi hit I g hz hR
   have e:i=vs.length:=by omega
   subst e
   obtain ⟨its,rv,⟨ol,nl,e1,e2,e3,e4⟩,_⟩:=I.list ((sd o).seq hq)
   have hl:s.heap.IsList l its.toArray:=⟨ol,e1,e2,nl,e4⟩
   have hlen:=rv.length
   refine codeAny_builtin av2 ?_
   rw [Around.under_plainId aj5 _]
   show wpAny _ A.in1 (pyNext (.ref it) >>= _) _ _ s
   refine wB (wpAny_pyNext_list_end (by exact hA) hit hl (Array.getElem?_eq_none (by simp; omega)) fun h' hx=>?_)
   show wpAny _ _ (Builtin.Dict.addKeywords d [] >>= _) _ _ _
   refine wB (wpAny_pure (wpAny_pure ?_))
   refine hR o _ (I.turnedL (t':=s.toks) (ch:=[it]) (fun b q hb e=>hx b q (fun z=>hb (by simp [z])) e) (fun b hb=>by rw [gG hb]; exact fi' o)) ?_
   rw [List.drop_of_length_le (Nat.le_of_eq hp.len)]
   exact g
 | succ n ih =>
   intro i s kvs o hn hi hit I g hz hR
   have hlt:i<vs.length:=by omega
   obtain ⟨its,rv,⟨ol,nl,e1,e2,e3,e4⟩,_⟩:=I.list ((sd o).seq hq)
   have hl:s.heap.IsList l its.toArray:=⟨ol,e1,e2,nl,e4⟩
   have hlen:=rv.length
   obtain ⟨T,t,y,v,ex,eT,hk,hv⟩:=hp.at_ i vs[i] (gE hlt)
   have hir:i<its.length:=by omega
   have rT:its[i]=Value.ref T:=by
    obtain ⟨u0,h0,ru⟩:=rv.get (gE hlt)
    rw [gE hir] at h0
    cases h0
    rw [ex] at ru
    exact ru
   refine codeAny_builtin av2 ?_
   rw [Around.under_plainId aj5 _]
   show wpAny _ A.in1 (pyNext (.ref it) >>= _) _ _ s
   refine wB (wpAny_pyNext_list_item hit hl (x:=its[i]) (by simp [hir]) fun h1 hit1 hs1=>?_)
   rw [rT]
   have I1:Inv X pins σ (upd H d o) { s with heap:=h1 }:=I.turnedL (t':=s.toks) (ch:=[it]) (fun b q hb e=>(hs1.2 b (fun z=>hb (by simp [z]))).trans e) (fun b hb=>by rw [gG hb]; exact fi' o)
   obtain ⟨its2,q1,⟨oT,hoT,cT,nT,dT⟩,_⟩:=I1.tuple (SqT.of (sd o _ _ eT))
   obtain ⟨u1,u2,rfl,ra,rb⟩:=bl9 q1
   have tT:({ s with heap:=h1 }:Shared).TypeIs (.ref T) "tuple":=⟨oT,hoT,cT⟩
   show wpAny _ _ (holding [Value.ref T] _ >>= _) _ _ _
   refine wB (wpAny_holding ?_)
   refine wB (wpAny_tryCatch ?_)
   unfold Builtin.Dict.pairItems
   refine wB (wpAny_typeOf tT ?_)
   rw [if_pos (by decide)]
   refine wB (wpAny_seqItems hoT dT (wpAny_pure ?_))
   show wpAny _ _ (holding [u1,u2] (dictSet d u1 u2)) _ _ _
   refine wpAny_holding ?_
   obtain ⟨oi,hoi,hoi2⟩:=id hit1
   have I2:Inv X (pins++pinsAt [it] h1) σ (upd H d o) { s with heap:=h1 }:=I1.pinned (fun b hb=>by rw [gG hb]; exact fi' o) (fun b hb=>by rw [gG hb]; exact ⟨oi,hoi,fun v z=>by have:=hoi2.2; rw [z] at this; cases this⟩)
   obtain ⟨m,em,g2,g3,g4⟩:=g
   have ml:m.length=kvs.length:=by rw [← em,gL]
   refine bf1 (by rw [aa1]; omega) I2 g2 g3 g4 (by omega) (hk.mono (sd o).tups) ra rb fun s2 I3=>?_
   refine wpAny_pure ⟨plainId_quiet aj5 _,?_⟩
   have pit:s2.heap.get? it=some oi:=(I3.pin (it,oi) (List.mem_append_right _ (List.mem_append_right _ (by simp [pinsAt,hoi])))).1
   have I4:=I3.unpinned
   have dp:DtAt X.w.params (upd (upd H d o) d (DtO X.w.params d (putM m t y v))) d (putK kvs t v):=em ▸ as2 g2 g3 g4 (hk.mono (sd o).tups)
   rw [as9] at I4 dp
   have hl2:=a98 kvs t v
   refine ih (i+1) s2 (putK kvs t v) _ (by omega) (by omega) ⟨oi,pit,hoi2⟩ I4 dp (by omega) fun o' s' I' g'=>hR o' s' I' ?_
   have hdr:ps.drop i=(t,v)::ps.drop (i+1):=by
    obtain ⟨hj,ej⟩:=gS hv
    rw [List.drop_eq_getElem_cons hj,ej]
   rw [hdr]
   exact g'
theorem bh9 (K:W.Frag) (hP:X.w.params=P) (hu:X.A.units+64<cLine) (hh:X.calm=true:=by rfl) (hK:X.K=K:=by rfl):CallR X (.type "dict") (rDictPT P K):=by
 subst hK hP
 intro pins s σ H xs us Q I r h
 obtain ⟨l,vs,kvs,rfl,hq,hp,q⟩:=h
 obtain ⟨u,rfl,ru⟩:=b74 r
 cases ru
 obtain ⟨its,rv,⟨o,n,ho,hc,hd,hdat⟩,hz⟩:=I.list hq
 have hA:X.A.handled=none:=I.ok.hd hh
 have hlen:=rv.length
 refine callType_codes (Q₁:=fun obj s₁=>obj=.ref s.heap.objs.size∧s₁={ s with heap:=s.heap.push { cls:=.type "dict",data:=.dict #[] } }) F.kt_called_dict (F.kt_typeCall_dict_1 _) F.entry_dict_init (kt_code_dict_new _ ⟨rfl,rfl⟩) ?_
 rintro obj s₁ ⟨rfl,rfl⟩
 have hf:=I.hok.fresh (Nat.le_refl s.heap.objs.size)
 have I1:Inv X pins σ (upd H s.heap.objs.size (DtO X.w.params s.heap.objs.size [])) { s with heap:=s.heap.push { cls:=.type "dict",data:=.dict #[] } }:=I.laid (a:=s.heap.objs.size) (o:=DtO X.w.params s.heap.objs.size []) (t':=s.toks) (fun _ _ q=>gP _ q) (Nat.le_refl _) (aq1 (az2 s.heap X.w.params I.big))
 have tyn:({ s with heap:=s.heap.push { cls:=.type "dict",data:=.dict #[] } }:Shared).TypeIs (.ref s.heap.objs.size) "dict":=⟨_,Heap.get?_push_size _ rfl,rfl⟩
 have ho':(s.heap.push { cls:=.type "dict",data:=.dict #[] }).get? l=some o:=gP _ ho
 refine ⟨tyn,F.args_dict_init_2 _ _,?_⟩
 unfold Builtin.«dict.__init__»
 refine wB ?_
 unfold Builtin.Dict.selfAndRest
 refine wB (wpAny_notOrdered_dict tyn ?_)
 show wpAny _ _ (pure (s.heap.objs.size,[Value.ref l])) _ _ _
 refine wpAny_pure ?_
 show wpAny _ _ (Builtin.Dict.updateFrom "dict.__init__" s.heap.objs.size (.ref l) [] .none) _ _ _
 unfold Builtin.Dict.updateFrom
 refine wB (wpAny_typeOf (T:="list") ⟨o,ho',hc⟩ ?_)
 rw [if_pos (by decide)]
 refine wB (getAttr?_miss_list ho' hc hdat hd be3 (by decide) (by exact hA) fun h1 tk1 k1=>?_)
 show wpAny _ _ (rule _ >>= _) _ _ _
 refine wB (wpAny_rule ?_)
 have I2:Inv X pins σ (upd H s.heap.objs.size (DtO X.w.params s.heap.objs.size [])) { s with heap:=h1,toks:=tk1 }:=I1.kept (t':=tk1) k1
 have hl1:h1.IsList l its.toArray:=⟨o,k1 _ _ ho',hc,n,hdat⟩
 refine wB (wpAny_pyIter_list hl1 (wpAny_pure ⟨plainId_quiet aj5 _,?_⟩))
 have hds:s.heap.objs.size<h1.objs.size:=Heap.lt_size (k1 _ _ (Heap.get?_push_size _ rfl))
 have fi:FpOk X pins H h1.objs.size:=by
  have:=I2.fpOk (b:=h1.objs.size) (H':=H) (Nat.le_refl _) ?_
  · exact this
  · have:=I2.hok.fresh (Nat.le_refl h1.objs.size)
    rw [a09 (Nat.ne_of_gt hds)] at this
    exact this
 refine loopT (H:=H) (l:=l) (vs:=vs) (ps:=kvs) (d:=s.heap.objs.size) (it:=h1.objs.size) (by rw [aa1]; omega) (by exact hA) hq hp hf (Nat.ne_of_lt hds) fi vs.length 0 _ [] (DtO X.w.params s.heap.objs.size []) (by omega) (Nat.zero_le _) ⟨_,Heap.get?_push_size _ rfl,rfl,rfl⟩ (I2.kept (t':=_) fun b u e=>gP _ e) ⟨[],rfl,.of a41,fun x hx=>absurd hx (by simp),List.nodup_nil⟩ (by simp; omega) fun o' s' I' g'=>?_
 exact ⟨rfl,.ref s.heap.objs.size,_,I',rfl,q _ _ hf g'⟩
theorem bq9 {K:W.Frag}{H:Hp}{Q:VK}{l:Addr}{vs:List V}{kvs:List (Tr×V)}(h1:SqL K H l vs) (h2:PrT H vs kvs) (h:∀ p o,H p=none→DtAt P (upd H p o) p (mergeT [] kvs)→Q (.ref p) (upd H p o)):rDictPT P K [.ref l] H Q:=⟨l,vs,kvs,rfl,h1,h2,h⟩
end
end L2
local macro_rules | `(tactic| walk_at "d") => `(tactic| first | exact ⟨by decide, by decide, by decide⟩ | exact ⟨by decide, by decide⟩ | exact .inr (.inr ⟨by decide, by decide⟩) | exact .inr (.inl ⟨by decide, by decide⟩) | decide | omega | exact L2.le_line (by simp only [List.length_cons, List.length_nil]; omega))
local macro_rules | `(tactic| walk_at "o") => `(tactic| first | exact Or.inl rfl | exact Or.inr rfl)
local macro_rules | `(tactic| walk_at "s") => do
  let mut acc ← `(tactic| ((with_reducible refine L2.i_rgA ?k ?l ?_); (case k => walk_at "d"); (case l => walk_at "d")))
  for s in ("i_rI aj3 cf3 cf4 i_c i_op i_un i_rU cf5 bx3 cf6 cf7 c86 i_bl cf8 i_if cf9 c87 c88 c89 c90 cg0 i_cb c91 cg1 cg2 cg3 c93 cg4 i_or c94 cg5 i_lc c95 bx4 c96 cg6 cg7 i_bm cg8 i_sl bn8 c97 cg9 bx5 bx6 c98 c99 ca3 ch1 ca0 bx7 ca1 ch0 ch3 ca9 ca5 ca6 ca8 cb0 i_tB ch4 cb1 ch5 cb6 cb7 ch7 bp0 cb8 by4 by5 ch8 cc0 cc1 cc2 cc4 by9 i_td bz2 bz4 i_bget i_bsetd i_dk bz8 c92".splitOn " ").reverse do
    let n := Lean.mkIdent (Lean.Name.str `L2 s)
    if s == "i_rI" || s == "aj3" || s == "c92" then acc ← `(tactic| first | ((with_reducible refine $n ?k ?_); (case k => walk_at "d")) | $acc:tactic)
    else acc ← `(tactic| first | with_reducible refine $n ?_ | $acc:tactic)
  `(tactic| first | ((with_reducible refine L2.i_name ?_); dsimp only [List.set_cons_zero, List.set_cons_succ]) | ((with_reducible refine' L2.i_var ?k ?_); (case k => rfl)) | $acc:tactic)
local macro_rules | `(tactic| walk_at "r") => `(tactic| (repeat walk_at "s"))
local macro_rules | `(tactic| walk_at "go") => do
  let ids := (("L2.start List.map_cons List.map_nil List.length_cons List.length_nil List.replicate List.cons_append List.nil_append Nat.reduceSub Nat.reduceAdd L2.nox_K L2.wish_K L2.cxOf_K L2.cxC_K".splitOn " ").map fun s => Lean.mkIdent s.toName).toArray
  `(tactic| (simp only [$[$ids:term],*]; walk_at "r"))
namespace K76
open PySem L2
theorem sc_standings:FnScope ["machine","events","found","known","place","event","standing"] ["machine","events"] (defScope a90):=⟨rfl,rfl,rfl,by decide +kernel,rfl,by decide +kernel,by decide +kernel⟩
theorem sc_right_paper:FnScope ["one","other","events","paper","pairs","pair","event"] ["one","other","events","paper"] (defScope a72):=⟨rfl,rfl,rfl,by decide +kernel,rfl,by decide +kernel,by decide +kernel⟩
theorem sc_begun_pair:FnScope ["one","other","told","said"] ["one","other"] (defScope a88):=⟨rfl,rfl,rfl,by decide +kernel,rfl,by decide +kernel,by decide +kernel⟩
theorem sc_stepped_pair:FnScope ["one","other","pair","event","told","said"] ["one","other","pair","event"] (defScope a73):=⟨rfl,rfl,rfl,by decide +kernel,rfl,by decide +kernel,by decide +kernel⟩
theorem b93:FnScope ["one","other","told","told_beside"] ["one","other","told","told_beside"] (defScope ac3):=⟨rfl,rfl,rfl,by decide +kernel,rfl,by decide +kernel,by decide +kernel⟩
theorem sc_found_paper:FnScope ["one","other","events","told"] ["one","other","events"] (defScope a78):=⟨rfl,rfl,rfl,by decide +kernel,rfl,by decide +kernel,by decide +kernel⟩
theorem sc_gone_through:FnScope ["one","other","events","first","found","ways","parted","place","event","pair"] ["one","other","events"] (defScope a74):=⟨rfl,rfl,rfl,by decide +kernel,rfl,by decide +kernel,by decide +kernel⟩
theorem bi0:FnScope ["ways","way","row"] ["ways","way"] (defScope ad8):=⟨rfl,rfl,rfl,by decide +kernel,rfl,by decide +kernel,by decide +kernel⟩
theorem sc_counted:FnScope ["things","numbers","thing"] ["things"] (defScope ac4):=⟨rfl,rfl,rfl,by decide +kernel,rfl,by decide +kernel,by decide +kernel⟩
theorem sc_pack:FnScope ["table","rooms","sayings","rows","shapes","texts","places","cells","room","row","shape","saying"] ["table"] (defScope ag7):=⟨rfl,rfl,rfl,by decide +kernel,rfl,by decide +kernel,by decide +kernel⟩
theorem sc_sayings_of:FnScope ["table","found","room"] ["table"] (defScope a83):=⟨rfl,rfl,rfl,by decide +kernel,rfl,by decide +kernel,by decide +kernel⟩
theorem b01:FnScope ["room","sayings"] ["room","sayings"] (defScope aa2):=⟨rfl,rfl,rfl,by decide +kernel,rfl,by decide +kernel,by decide +kernel⟩
theorem sc_texts_in:FnScope ["sayings","found","saying"] ["sayings"] (defScope aa7):=⟨rfl,rfl,rfl,by decide +kernel,rfl,by decide +kernel,by decide +kernel⟩
theorem br0:FnScope ["cells"] ["cells"] (defScope af4):=⟨rfl,rfl,rfl,by decide +kernel,rfl,by decide +kernel,by decide +kernel⟩
theorem sc_shape_cells:FnScope ["shape","common","cells","place","pair"] ["shape"] (defScope a79):=⟨rfl,rfl,rfl,by decide +kernel,rfl,by decide +kernel,by decide +kernel⟩
theorem sc_common_pair:FnScope ["shape","counts","pair","most"] ["shape"] (defScope a75):=⟨rfl,rfl,rfl,by decide +kernel,rfl,by decide +kernel,by decide +kernel⟩
theorem sc_block_places:FnScope ["cells","place","count","found"] ["cells","place","count"] (defScope a76):=⟨rfl,rfl,rfl,by decide +kernel,rfl,by decide +kernel,by decide +kernel⟩
theorem b02:FnScope ["texts","cells","place"] ["texts","cells","place"] (defScope aa3):=⟨rfl,rfl,rfl,by decide +kernel,rfl,by decide +kernel,by decide +kernel⟩
theorem b03:FnScope ["cells","place"] ["cells","place"] (defScope aa8):=⟨rfl,rfl,rfl,by decide +kernel,rfl,by decide +kernel,by decide +kernel⟩
theorem aw1:FnScope ["shape"] ["shape"] (defScope a91):=⟨rfl,rfl,rfl,by decide +kernel,rfl,by decide +kernel,by decide +kernel⟩
theorem aw2:FnScope ["room","numbers"] ["room","numbers"] (defScope a92):=⟨rfl,rfl,rfl,by decide +kernel,rfl,by decide +kernel,by decide +kernel⟩
theorem sc_places_by:FnScope ["events","places","place","event"] ["events"] (defScope a96):=⟨rfl,rfl,rfl,by decide +kernel,rfl,by decide +kernel,by decide +kernel⟩
theorem b04:FnScope ["places","event"] ["places","event"] (defScope aa9):=⟨rfl,rfl,rfl,by decide +kernel,rfl,by decide +kernel,by decide +kernel⟩
theorem sc_TableMachine___init__:FnScope ["self","table","same"] ["self","table"] (defScope a43):=⟨rfl,rfl,rfl,by decide +kernel,rfl,by decide +kernel,by decide +kernel⟩
theorem ah3:FnScope ["self"] ["self"] (defScope a50):=⟨rfl,rfl,rfl,by decide +kernel,rfl,by decide +kernel,by decide +kernel⟩
theorem sc_TableMachine_step:FnScope ["self","standing","event","row"] ["self","standing","event"] (defScope a51):=⟨rfl,rfl,rfl,by decide +kernel,rfl,by decide +kernel,by decide +kernel⟩
theorem ai3:FnScope ["self","standing"] ["self","standing"] (defScope a52):=⟨rfl,rfl,rfl,by decide +kernel,rfl,by decide +kernel,by decide +kernel⟩
theorem af7:FnScope ["self","pack"] ["self","pack"] (defScope a46):=⟨rfl,rfl,rfl,by decide +kernel,rfl,by decide +kernel,by decide +kernel⟩
theorem ai4:FnScope ["self"] ["self"] (defScope a53):=⟨rfl,rfl,rfl,by decide +kernel,rfl,by decide +kernel,by decide +kernel⟩
theorem sc_PackMachine_step:FnScope ["self","standing","event","shape","event_place","place","saying","way"] ["self","standing","event"] (defScope a57):=⟨rfl,rfl,rfl,by decide +kernel,rfl,by decide +kernel,by decide +kernel⟩
theorem ai6:FnScope ["self","standing"] ["self","standing"] (defScope a58):=⟨rfl,rfl,rfl,by decide +kernel,rfl,by decide +kernel,by decide +kernel⟩
theorem ag3:FnScope ["self","saying"] ["self","saying"] (defScope a49):=⟨rfl,rfl,rfl,by decide +kernel,rfl,by decide +kernel,by decide +kernel⟩
theorem sc_law_take:FnScope ["state","many","found"] ["state","many"] (defScope ab0):=⟨rfl,rfl,rfl,by decide +kernel,rfl,by decide +kernel,by decide +kernel⟩
theorem b05:FnScope ["script","k","mixed"] ["script","k","mixed"] (defScope ab1):=⟨rfl,rfl,rfl,by decide +kernel,rfl,by decide +kernel,by decide +kernel⟩
theorem sc_law_events:FnScope ["state","keys","words"] ["state"] (defScope a77):=⟨rfl,rfl,rfl,by decide +kernel,rfl,by decide +kernel,by decide +kernel⟩
theorem sc_law_said:FnScope ["state","many","some"] ["state","many"] (defScope ab2):=⟨rfl,rfl,rfl,by decide +kernel,rfl,by decide +kernel,by decide +kernel⟩
theorem sc_law_table:FnScope ["script","mixed","first","events","many","kinds","saying","rooms","k","state","wide","rows"] ["script"] (defScope a85):=⟨rfl,rfl,rfl,by decide +kernel,rfl,by decide +kernel,by decide +kernel⟩
theorem sc_law_come_to:FnScope ["rooms","found","due","room","said","goal"] ["rooms"] (defScope a80):=⟨rfl,rfl,rfl,by decide +kernel,rfl,by decide +kernel,by decide +kernel⟩
theorem sc_law_right:FnScope ["rooms","paper","one","other","row","twin"] ["rooms","paper"] (defScope a97):=⟨rfl,rfl,rfl,by decide +kernel,rfl,by decide +kernel,by decide +kernel⟩
theorem sc_law:FnScope ["script","table","one","other","state","rooms","turn","paper","at","less","wrong","some","told","found"] ["script"] (defScope ao7):=⟨rfl,rfl,rfl,by decide +kernel,rfl,by decide +kernel,by decide +kernel⟩
set_option genInjectivity false in
structure Adr where
 a_standings:Addr
 fd_standings:FuncData
 a_right_paper:Addr
 fd_right_paper:FuncData
 a_begun_pair:Addr
 fd_begun_pair:FuncData
 a_stepped_pair:Addr
 fd_stepped_pair:FuncData
 a_pair_of:Addr
 fd_pair_of:FuncData
 a_found_paper:Addr
 fd_found_paper:FuncData
 a_gone_through:Addr
 fd_gone_through:FuncData
 a_row_by:Addr
 fd_row_by:FuncData
 a_counted:Addr
 fd_counted:FuncData
 a_pack:Addr
 fd_pack:FuncData
 a_sayings_of:Addr
 fd_sayings_of:FuncData
 a_pairs_of:Addr
 fd_pairs_of:FuncData
 a_texts_in:Addr
 fd_texts_in:FuncData
 a_block:Addr
 fd_block:FuncData
 a_shape_cells:Addr
 fd_shape_cells:FuncData
 a_common_pair:Addr
 fd_common_pair:FuncData
 a_block_places:Addr
 fd_block_places:FuncData
 a_texts_at:Addr
 fd_texts_at:FuncData
 a_cells_in:Addr
 fd_cells_in:FuncData
 a_others_in:Addr
 fd_others_in:FuncData
 a_room_with:Addr
 fd_room_with:FuncData
 a_places_by:Addr
 fd_places_by:FuncData
 a_place_of:Addr
 fd_place_of:FuncData
 a_TableMachine___init__:Addr
 fd_TableMachine___init__:FuncData
 a_TableMachine_begin:Addr
 fd_TableMachine_begin:FuncData
 a_TableMachine_step:Addr
 fd_TableMachine_step:FuncData
 a_TableMachine_over:Addr
 fd_TableMachine_over:FuncData
 a_PackMachine___init__:Addr
 fd_PackMachine___init__:FuncData
 a_PackMachine_begin:Addr
 fd_PackMachine_begin:FuncData
 a_PackMachine_step:Addr
 fd_PackMachine_step:FuncData
 a_PackMachine_over:Addr
 fd_PackMachine_over:FuncData
 a_PackMachine_said_by:Addr
 fd_PackMachine_said_by:FuncData
 a__law_take:Addr
 fd__law_take:FuncData
 a__law_cell:Addr
 fd__law_cell:FuncData
 a__law_events:Addr
 fd__law_events:FuncData
 a__law_said:Addr
 fd__law_said:FuncData
 a__law_table:Addr
 fd__law_table:FuncData
 a__law_come_to:Addr
 fd__law_come_to:FuncData
 a__law_right:Addr
 fd__law_right:FuncData
 a_law:Addr
 fd_law:FuncData
 c_MillError:Addr
 c_TooMany:Addr
 c_Machine:Addr
 c_TableMachine:Addr
 c_PackMachine:Addr
 u_MOST_STANDINGS:Value
 u_HEAD:Value
structure Txt (K:W.Frag) (mg:Str→Option Value) (t:Adr):Prop where
 F_standings:Fun K "standings" "standings" a90 t.a_standings t.fd_standings
 m_standings:mg "standings"=some (.ref t.a_standings)
 b_standings:Binds K t.fd_standings ["machine","events"] []
 F_right_paper:Fun K "right_paper" "right_paper" a72 t.a_right_paper t.fd_right_paper
 m_right_paper:mg "right_paper"=some (.ref t.a_right_paper)
 b_right_paper:Binds K t.fd_right_paper ["one","other","events","paper"] []
 F_begun_pair:Fun K "begun_pair" "begun_pair" a88 t.a_begun_pair t.fd_begun_pair
 m_begun_pair:mg "begun_pair"=some (.ref t.a_begun_pair)
 b_begun_pair:Binds K t.fd_begun_pair ["one","other"] []
 F_stepped_pair:Fun K "stepped_pair" "stepped_pair" a73 t.a_stepped_pair t.fd_stepped_pair
 m_stepped_pair:mg "stepped_pair"=some (.ref t.a_stepped_pair)
 b_stepped_pair:Binds K t.fd_stepped_pair ["one","other","pair","event"] []
 F_pair_of:Fun K "pair_of" "pair_of" ac3 t.a_pair_of t.fd_pair_of
 m_pair_of:mg "pair_of"=some (.ref t.a_pair_of)
 b_pair_of:Binds K t.fd_pair_of ["one","other","told","told_beside"] []
 F_found_paper:Fun K "found_paper" "found_paper" a78 t.a_found_paper t.fd_found_paper
 m_found_paper:mg "found_paper"=some (.ref t.a_found_paper)
 b_found_paper:Binds K t.fd_found_paper ["one","other","events"] []
 F_gone_through:Fun K "gone_through" "gone_through" a74 t.a_gone_through t.fd_gone_through
 m_gone_through:mg "gone_through"=some (.ref t.a_gone_through)
 b_gone_through:Binds K t.fd_gone_through ["one","other","events"] []
 F_row_by:Fun K "row_by" "row_by" ad8 t.a_row_by t.fd_row_by
 m_row_by:mg "row_by"=some (.ref t.a_row_by)
 b_row_by:Binds K t.fd_row_by ["ways","way"] []
 F_counted:Fun K "counted" "counted" ac4 t.a_counted t.fd_counted
 m_counted:mg "counted"=some (.ref t.a_counted)
 b_counted:Binds K t.fd_counted ["things"] []
 F_pack:Fun K "pack" "pack" ag7 t.a_pack t.fd_pack
 m_pack:mg "pack"=some (.ref t.a_pack)
 b_pack:Binds K t.fd_pack ["table"] []
 F_sayings_of:Fun K "sayings_of" "sayings_of" a83 t.a_sayings_of t.fd_sayings_of
 m_sayings_of:mg "sayings_of"=some (.ref t.a_sayings_of)
 b_sayings_of:Binds K t.fd_sayings_of ["table"] []
 F_pairs_of:Fun K "pairs_of" "pairs_of" aa2 t.a_pairs_of t.fd_pairs_of
 m_pairs_of:mg "pairs_of"=some (.ref t.a_pairs_of)
 b_pairs_of:Binds K t.fd_pairs_of ["room","sayings"] []
 F_texts_in:Fun K "texts_in" "texts_in" aa7 t.a_texts_in t.fd_texts_in
 m_texts_in:mg "texts_in"=some (.ref t.a_texts_in)
 b_texts_in:Binds K t.fd_texts_in ["sayings"] []
 F_block:Fun K "block" "block" af4 t.a_block t.fd_block
 m_block:mg "block"=some (.ref t.a_block)
 b_block:Binds K t.fd_block ["cells"] []
 F_shape_cells:Fun K "shape_cells" "shape_cells" a79 t.a_shape_cells t.fd_shape_cells
 m_shape_cells:mg "shape_cells"=some (.ref t.a_shape_cells)
 b_shape_cells:Binds K t.fd_shape_cells ["shape"] []
 F_common_pair:Fun K "common_pair" "common_pair" a75 t.a_common_pair t.fd_common_pair
 m_common_pair:mg "common_pair"=some (.ref t.a_common_pair)
 b_common_pair:Binds K t.fd_common_pair ["shape"] []
 F_block_places:Fun K "block_places" "block_places" a76 t.a_block_places t.fd_block_places
 m_block_places:mg "block_places"=some (.ref t.a_block_places)
 b_block_places:Binds K t.fd_block_places ["cells","place","count"] []
 F_texts_at:Fun K "texts_at" "texts_at" aa3 t.a_texts_at t.fd_texts_at
 m_texts_at:mg "texts_at"=some (.ref t.a_texts_at)
 b_texts_at:Binds K t.fd_texts_at ["texts","cells","place"] []
 F_cells_in:Fun K "cells_in" "cells_in" aa8 t.a_cells_in t.fd_cells_in
 m_cells_in:mg "cells_in"=some (.ref t.a_cells_in)
 b_cells_in:Binds K t.fd_cells_in ["cells","place"] []
 F_others_in:Fun K "others_in" "others_in" a91 t.a_others_in t.fd_others_in
 m_others_in:mg "others_in"=some (.ref t.a_others_in)
 b_others_in:Binds K t.fd_others_in ["shape"] []
 F_room_with:Fun K "room_with" "room_with" a92 t.a_room_with t.fd_room_with
 m_room_with:mg "room_with"=some (.ref t.a_room_with)
 b_room_with:Binds K t.fd_room_with ["room","numbers"] []
 F_places_by:Fun K "places_by" "places_by" a96 t.a_places_by t.fd_places_by
 m_places_by:mg "places_by"=some (.ref t.a_places_by)
 b_places_by:Binds K t.fd_places_by ["events"] []
 F_place_of:Fun K "place_of" "place_of" aa9 t.a_place_of t.fd_place_of
 m_place_of:mg "place_of"=some (.ref t.a_place_of)
 b_place_of:Binds K t.fd_place_of ["places","event"] []
 F_TableMachine___init__:Fun K "__init__" "TableMachine.__init__" a43 t.a_TableMachine___init__ t.fd_TableMachine___init__
 b_TableMachine___init__:Binds K t.fd_TableMachine___init__ ["self","table"] []
 F_TableMachine_begin:Fun K "begin" "TableMachine.begin" a50 t.a_TableMachine_begin t.fd_TableMachine_begin
 M_TableMachine_begin:Meth K t.c_TableMachine "begin" t.a_TableMachine_begin
 b_TableMachine_begin:Binds K t.fd_TableMachine_begin ["self"] []
 F_TableMachine_step:Fun K "step" "TableMachine.step" a51 t.a_TableMachine_step t.fd_TableMachine_step
 M_TableMachine_step:Meth K t.c_TableMachine "step" t.a_TableMachine_step
 b_TableMachine_step:Binds K t.fd_TableMachine_step ["self","standing","event"] []
 F_TableMachine_over:Fun K "over" "TableMachine.over" a52 t.a_TableMachine_over t.fd_TableMachine_over
 M_TableMachine_over:Meth K t.c_TableMachine "over" t.a_TableMachine_over
 b_TableMachine_over:Binds K t.fd_TableMachine_over ["self","standing"] []
 F_PackMachine___init__:Fun K "__init__" "PackMachine.__init__" a46 t.a_PackMachine___init__ t.fd_PackMachine___init__
 b_PackMachine___init__:Binds K t.fd_PackMachine___init__ ["self","pack"] []
 F_PackMachine_begin:Fun K "begin" "PackMachine.begin" a53 t.a_PackMachine_begin t.fd_PackMachine_begin
 M_PackMachine_begin:Meth K t.c_PackMachine "begin" t.a_PackMachine_begin
 b_PackMachine_begin:Binds K t.fd_PackMachine_begin ["self"] []
 F_PackMachine_step:Fun K "step" "PackMachine.step" a57 t.a_PackMachine_step t.fd_PackMachine_step
 M_PackMachine_step:Meth K t.c_PackMachine "step" t.a_PackMachine_step
 b_PackMachine_step:Binds K t.fd_PackMachine_step ["self","standing","event"] []
 F_PackMachine_over:Fun K "over" "PackMachine.over" a58 t.a_PackMachine_over t.fd_PackMachine_over
 M_PackMachine_over:Meth K t.c_PackMachine "over" t.a_PackMachine_over
 b_PackMachine_over:Binds K t.fd_PackMachine_over ["self","standing"] []
 F_PackMachine_said_by:Fun K "said_by" "PackMachine.said_by" a49 t.a_PackMachine_said_by t.fd_PackMachine_said_by
 M_PackMachine_said_by:Meth K t.c_PackMachine "said_by" t.a_PackMachine_said_by
 b_PackMachine_said_by:Binds K t.fd_PackMachine_said_by ["self","saying"] []
 F__law_take:Fun K "_law_take" "_law_take" ab0 t.a__law_take t.fd__law_take
 m__law_take:mg "_law_take"=some (.ref t.a__law_take)
 b__law_take:Binds K t.fd__law_take ["state","many"] []
 F__law_cell:Fun K "_law_cell" "_law_cell" ab1 t.a__law_cell t.fd__law_cell
 m__law_cell:mg "_law_cell"=some (.ref t.a__law_cell)
 b__law_cell:Binds K t.fd__law_cell ["script","k","mixed"] []
 F__law_events:Fun K "_law_events" "_law_events" a77 t.a__law_events t.fd__law_events
 m__law_events:mg "_law_events"=some (.ref t.a__law_events)
 b__law_events:Binds K t.fd__law_events ["state"] []
 F__law_said:Fun K "_law_said" "_law_said" ab2 t.a__law_said t.fd__law_said
 m__law_said:mg "_law_said"=some (.ref t.a__law_said)
 b__law_said:Binds K t.fd__law_said ["state","many"] []
 F__law_table:Fun K "_law_table" "_law_table" a85 t.a__law_table t.fd__law_table
 m__law_table:mg "_law_table"=some (.ref t.a__law_table)
 b__law_table:Binds K t.fd__law_table ["script"] []
 F__law_come_to:Fun K "_law_come_to" "_law_come_to" a80 t.a__law_come_to t.fd__law_come_to
 m__law_come_to:mg "_law_come_to"=some (.ref t.a__law_come_to)
 b__law_come_to:Binds K t.fd__law_come_to ["rooms"] []
 F__law_right:Fun K "_law_right" "_law_right" a97 t.a__law_right t.fd__law_right
 m__law_right:mg "_law_right"=some (.ref t.a__law_right)
 b__law_right:Binds K t.fd__law_right ["rooms","paper"] []
 F_law:Fun K "law" "law" ao7 t.a_law t.fd_law
 m_law:mg "law"=some (.ref t.a_law)
 b_law:Binds K t.fd_law ["script"] []
 m_MillError:mg "MillError"=some (.ref t.c_MillError)
 m_TooMany:mg "TooMany"=some (.ref t.c_TooMany)
 m_Machine:mg "Machine"=some (.ref t.c_Machine)
 m_TableMachine:mg "TableMachine"=some (.ref t.c_TableMachine)
 cl_TableMachine:Cls K t.c_TableMachine
 mk_TableMachine:Mk K t.c_TableMachine t.a_TableMachine___init__
 n_TableMachine_places:NoAttr K t.c_TableMachine "places"
 n_TableMachine_rooms:NoAttr K t.c_TableMachine "rooms"
 n_TableMachine_saying:NoAttr K t.c_TableMachine "saying"
 m_PackMachine:mg "PackMachine"=some (.ref t.c_PackMachine)
 cl_PackMachine:Cls K t.c_PackMachine
 mk_PackMachine:Mk K t.c_PackMachine t.a_PackMachine___init__
 n_PackMachine_cells:NoAttr K t.c_PackMachine "cells"
 n_PackMachine_places:NoAttr K t.c_PackMachine "places"
 n_PackMachine_sayings:NoAttr K t.c_PackMachine "sayings"
 n_PackMachine_shapes:NoAttr K t.c_PackMachine "shapes"
 n_PackMachine_texts:NoAttr K t.c_PackMachine "texts"
 z_bool:mg "bool"=none
 z_dict:mg "dict"=none
 z_enumerate:mg "enumerate"=none
 z_isinstance:mg "isinstance"=none
 z_len:mg "len"=none
 z_list:mg "list"=none
 z_max:mg "max"=none
 z_min:mg "min"=none
 z_range:mg "range"=none
 z_set:mg "set"=none
 z_sorted:mg "sorted"=none
 z_sum:mg "sum"=none
 z_tuple:mg "tuple"=none
 z_zip:mg "zip"=none
 m_MOST_STANDINGS:mg "MOST_STANDINGS"=some t.u_MOST_STANDINGS
 r_MOST_STANDINGS:RelV (.int 2000) t.u_MOST_STANDINGS
 m_HEAD:mg "HEAD"=some t.u_HEAD
 r_HEAD:RelV (.int 4) t.u_HEAD
section
variable {P:Program}{w:World}{K:W.Frag}{mg:Str→Option Value}{base:Heap}{t:Adr}
def Oth (s:Addr) (H H':Hp):Prop:=∀ y o,y≠s→H y=some o→H' y=some o
def StA (H:Hp) (s:Addr) (z:Int):Prop:=∃ x:Int,H s=some (.lst [.int x,.int z])
theorem Oth.trans {s:Addr}{H H1 H2:Hp}(a:Oth s H H1) (b:Oth s H1 H2):Oth s H H2:=fun c o h e=>b c o h (a c o h e)
theorem ad9 {s:Addr}{H H':Hp}(h:Same H H'):Oth s H H':=fun c o _ e=>h c o e
theorem Oth.tups {s:Addr}{H H':Hp}{z:Int}(f:Oth s H H') (k:StA H s z):Tups H H':=fun b ys e=>by
 obtain ⟨x,h⟩:=k
 exact f b _ (ag4 e h (fun z=>nomatch z)) e
theorem Oth.new {s:Addr}{H0 H H':Hp}(f:Oth s H H') (h:Same H0 H) (hs:H0 s=none):Same H0 H':=fun b o e=>f b o (a05 e hs) (h b o e)
theorem StA.same {H H':Hp}{s:Addr}{z:Int}(k:StA H s z) (h:Same H H'):StA H' s z:=by
 obtain ⟨x,e⟩:=k
 exact ⟨x,h _ _ e⟩
theorem Oth.free {s p:Addr}{H H':Hp}{z:Int}(f:Oth s H H') (k:StA H' s z) (h:H' p=none):H p=none:=by
 cases e:H p with
 | none=>rfl
 | some o =>
   obtain ⟨x,hs⟩:=k
   rw [f p o (fun q=>by rw [q,hs] at h; cases h) e] at h
   cases h
theorem b06 (x:Int) {m:Nat}(h:0<m):∃ r:Nat,r<m∧x % (m:Int)=(r:Nat):=⟨(x % (m:Int)).toNat,by
 have h1:=Int.emod_nonneg x (show (m:Int)≠0 by omega)
 have h2:=Int.emod_lt_of_pos x (show (0:Int)<(m:Int) by omega)
 omega,by
 have h1:=Int.emod_nonneg x (show (m:Int)≠0 by omega)
 omega⟩
theorem cb {i j:Int}(h1:-1000000000000000000<i) (h2:i<1000000000000000000):CBig i j:=.inr (.inl ⟨by omega,by omega⟩)
theorem cb2 {i j:Int}(h1:-1000000000000000000<j) (h2:j<1000000000000000000):CBig i j:=.inr (.inr ⟨by omega,by omega⟩)
def bz9 (K:W.Frag):Sp:=fun vs H Q _=>∃ (s:Addr) (z:Int) (m:Nat),vs=[.ref s,.int (m:Nat)]∧StA H s z∧0<m∧m≤1000∧∀ (r:Nat) H',r<m→Oth s H H'→StA H' s z→Q (.int (r:Nat)) H'
theorem af8 (T:Txt K mg t):FnOk P w K mg base CX0 1 t.a__law_take t.fd__law_take ["state","many"] (bz9 K):=by
 refine T.F__law_take.ok sc_law_take (fun vs H Q E h=>?_) (fun cdv A outer s H vs Q E hr h=>?_)
 · obtain ⟨s,z,m,rfl,_⟩:=h
   rfl
 · obtain ⟨s0,z,m,rfl,⟨x,hs⟩,hm,hm2,q⟩:=h
   refine ⟨_,(@a02 _ _ _ _ _ (@ad7 _ _ _ _ _ _ _ _ (@a62 _ _ _ _ _ _ _ _ at9 (@a44 _ _ _ _ _ _ _ (a42 K) (pv 0) (@a03 _ _ _ _) (fun _ _=>rfl)) (@a03 _ _ _ _) (nomark _)) (@a02 _ _ _ _ _ (@bb1 _ _ _ _ _ _ (@a89 _ _ _ _ _ _ _ _ ai9 (@a89 _ _ _ _ _ _ _ _ ah9 (@a89 _ _ _ _ _ _ _ _ a86 (@a44 _ _ _ _ _ _ _ (a42 K) (pv 0) (@a03 _ _ _ _) (fun _ _=>rfl)) (@a03 _ _ _ _)) (@a03 _ _ _ _)) (@a03 _ _ _ _)) (bb0 (pv 0) (@a03 _ _ _ _) ar5) (by rfl) (by rfl) (by rfl))
    (@a02 _ _ _ _ _ (@bb1 _ _ _ _ _ _ (@a89 _ _ _ _ _ _ _ _ ai9 (@a89 _ _ _ _ _ _ _ _ ah9 (@a44 _ _ _ _ _ _ _ (a42 K) (pv 0) (@a03 _ _ _ _) (fun _ _=>rfl)) (@a44 _ _ _ _ _ _ _ (a42 K) (pv 0) (@a03 _ _ _ _) (fun _ _=>rfl))) (@a03 _ _ _ _)) (bb0 (pv 0) (@a03 _ _ _ _) ar5) (by rfl) (by rfl) (by rfl))
    (@a06 _ _ _ (@a54 _ _ _ _ (@a89 _ _ _ _ _ _ _ _ ai9 (@a89 _ _ _ _ _ _ _ _ ar2 (@a89 _ _ _ _ _ _ _ _ ai9 (@a89 _ _ _ _ _ _ _ _ ah9 (@a44 _ _ _ _ _ _ _ (a42 K) (pv 0) (@a03 _ _ _ _) (fun _ _=>rfl)) (@a03 _ _ _ _)) (@a03 _ _ _ _)) (@a03 _ _ _ _)) (pv 1)))))) (@a84 _))
    (@a02 _ _ _ _ _ (@a45 _ _ 2 _ _ _ _ sc_law_take.nd rfl (by walk_at "o") (@a89 _ _ _ _ _ _ _ _ ai9 (@a44 _ _ _ _ _ _ _ (a42 K) (pv 0) (@a03 _ _ _ _) (fun _ _=>rfl)) (pv 1)) (by rfl) (by walk_at "o"))
    (@a02 _ _ _ _ _ (@bb1 _ _ _ _ _ _ (@a89 _ _ _ _ _ _ _ _ ar2 (@a44 _ _ _ _ _ _ _ (a42 K) (pv 0) (@a03 _ _ _ _) (fun _ _=>rfl)) (pv 1)) (bb0 (pv 0) (@a03 _ _ _ _) ar5) (by rfl) (by rfl) (by rfl))
    (@a06 _ _ _ (@a54 _ _ _ _ (pv 2)))))),?_⟩
   walk_at "go"
   refine a93 (SqL.of hs) (a04 (j:=1) rfl) ?_
   walk_at "r"
   have up:∀ y:Int,Oth s0 H (upd H s0 (.lst [.int y,.int z])):=fun y c o h e=>by rw [a09 h]; exact e
   have ups:∀ y:Int,upd H s0 (.lst [.int y,.int z]) s0=some (.lst [.int y,.int z]):=fun y=>a41
   refine ite2 (fun hc=>?_) (fun hc=>?_)
   · walk_at "r"
     refine a93 (SqL.of hs) (a04 (j:=0) rfl) ?_
     walk_at "r"
     refine be5 hs (j:=0) rfl ?_
     have b1:=Int.emod_nonneg ((x+1)*48271) (show (2147483647:Int)≠0 by decide)
     have b2:=Int.emod_lt_of_pos ((x+1)*48271) (show (0:Int)<2147483647 by decide)
     rw [show [V.int x,V.int z].set 0 (V.int ((x+1)*48271 % 2147483647))=[V.int ((x+1)*48271 % 2147483647),.int z] from rfl]
     generalize (x+1)*48271 % 2147483647=y at b1 b2
     walk_at "r"
     refine a93 (SqL.of (ups y)) (a04 (j:=0) rfl) ?_
     walk_at "r"
     refine a93 (SqL.of (ups y)) (a04 (j:=0) rfl) ?_
     walk_at "r"
     refine aj3 (cb2 (by omega) (by omega)) ?_
     walk_at "r"
     refine be5 (ups y) (j:=0) rfl ?_
     rw [ba6,show [V.int y,V.int z].set 0 (V.int (y*y % 2147483629))=[V.int (y*y % 2147483629),.int z] from rfl]
     generalize y*y % 2147483629=y2
     walk_at "r"
     refine a93 (SqL.of (ups y2)) (a04 (j:=0) rfl) ?_
     walk_at "r"
     obtain ⟨r,hr,e⟩:=b06 (y2*69621 % 2147483587 / 8) hm
     rw [e]
     exact q r _ hr (up y2) ⟨y2,ups y2⟩
   · walk_at "r"
     refine a93 (SqL.of hs) (a04 (j:=0) rfl) ?_
     walk_at "r"
     obtain ⟨r,hr,e⟩:=b06 x hm
     rw [e]
     refine a93 (SqL.of hs) (a04 (j:=0) rfl) ?_
     walk_at "r"
     refine i_rI (show CDiv _ _ from ⟨by omega,by omega⟩) ?_
     walk_at "r"
     refine be5 hs (j:=0) rfl ?_
     walk_at "r"
     exact q r _ hr (up (x / (m:Nat))) ⟨x / (m:Nat),ups _⟩
def c00 (K:W.Frag):Sp:=fun vs H Q _=>∃ (a:Addr) (ns:List Int) (k:Nat) (m:Int),vs=[.ref a,.int (k:Nat),.int m]∧SqL K H a (ns.map V.int)∧k≤1000∧0≤m∧m≤1∧∀ (z:Int) H',Same H H'→Q (.int z) H'
theorem ao1 (T:Txt K mg t):FnOk P w K mg base CX0 1 t.a__law_cell t.fd__law_cell ["script","k","mixed"] (c00 K):=by
 refine T.F__law_cell.ok b05 (fun vs H Q E h=>?_) (fun cdv A outer s H vs Q E hr h=>?_)
 · obtain ⟨a,ns,k,m,rfl,_⟩:=h
   rfl
 · obtain ⟨a,ns,k,m,rfl,hS,hk,hm,hm2,q⟩:=h
   refine ⟨_,(@a02 _ _ _ _ _ (@ad7 _ _ _ _ _ _ _ _ (@a62 _ _ _ _ _ _ _ _ (bf6 K (by exact hr.units)) (pv 0) (@a48 _ _ _ _ (@a01 _)) (nomark _)) (@a06 _ _ _ (@a54 _ _ _ _ (@a89 _ _ _ _ _ _ _ _ ah9 (pv 2) (pv 1)))) (@a84 _))
    (@a06 _ _ _ (@a54 _ _ _ _ (@a89 _ _ _ _ _ _ _ _ a86 (@a44 _ _ _ _ _ _ _ (a42 K) (pv 0) (@a89 _ _ _ _ _ _ _ _ ai9 (pv 1) (@a59 _ _ _ _ _ _ _ _ _ aq0 (by rfl) T.z_min bt9 (@a00 _ _ _ _ _ (@a03 _ _ _ _) (@a00 _ _ _ _ _ (@a59 _ _ _ _ _ _ _ _ _ (aa6 K) (by rfl) T.z_len ab9 (@a00 _ _ _ _ _ (pv 0) (@a01 _) (by rfl)) (by decide) (by decide) (by rfl) (by rfl)) (@a01 _) (by rfl)) (by rfl)) (by decide) (by decide) (by rfl) (by rfl))) (fun _ _=>rfl)) (@a89 _ _ _ _ _ _ _ _ ah9 (pv 2) (pv 1)))))),?_⟩
   walk_at "go"
   intro p1 H1 f1 s1 e1
   refine by6 (s1.seq hS) (SqL.of e1) ?_
   walk_at "r"
   cases ns with
   | nil =>
     refine bx5 ?_
     walk_at "r"
     refine aj3 (cb (by omega) (by omega)) ?_
     exact q _ H1 s1
   | cons n0 nr =>
     refine bx6 ?_
     walk_at "r"
     refine ad3 (s1.seq hS) ?_
     walk_at "r"
     have hl:0<min 63 (n0::nr).length:=by simp; omega
     have hlen:(n0::nr).length=nr.length+1:=rfl
     generalize n0::nr=ns at hS hl hlen
     rw [gL,show min (63:Int) (ns.length:Nat)=((min 63 ns.length:Nat):Int) by omega]
     obtain ⟨r,hr,e⟩:=b06 (k:Int) hl
     walk_at "r"
     rw [e]
     have hrl:r<ns.length:=by omega
     refine a93 (s1.seq hS) (v:=.int ns[r]) (a04 (j:=r) (by simp [hrl])) ?_
     walk_at "r"
     refine aj3 (cb (by omega) (by omega)) ?_
     walk_at "r"
     exact q _ H1 s1
inductive Ev where
 | quiet
 | key (k:Nat)
 | word (w:Str)
def Ev.kind:Ev→Str
 | .quiet=>"quiet"
 | .key _=>"key"
 | .word _=>"word"
def Ev.tr:Ev→Tr
 | .quiet=>.tup [.str "quiet"]
 | .key k=>.tup [.str "key",.int (k:Nat)]
 | .word w=>.tup [.str "word",.str w]
theorem Ev.tr_inj {a b:Ev}(h:a.tr=b.tr):a=b:=by
 cases a <;> cases b <;> simp [Ev.tr] at h ⊢ <;> first | exact h | omega | (exact h.2) | skip
theorem Ev.tr_h (a:Ev):a.tr.h≤1:=by cases a <;> simp [Ev.tr,Tr.h,Tr.hs]
theorem aa0 {H:Hp}{xs:List Tr}{vs:List V}(h:Tr.Ats H xs vs []) {i:Nat}{v:V}(e:vs[i]?=some v):∃ x,xs[i]?=some x∧x.At H v []:=by
 obtain ⟨x,f,h1,h2,h3⟩:=h.get i v e
 have:f=[]:=List.eq_nil_iff_forall_not_mem.mpr fun a m=>by simpa using h3 a m
 subst this
 exact ⟨x,h1,h2⟩
theorem cc7 {H:Hp}{e:Ev}{v:V}(h:e.tr.At H v []):∃ a xs,v=.ref a∧H a=some (.tup (V.str e.kind::xs)):=by
 cases e with
 | quiet =>
   obtain ⟨a,vs,rfl,e2,h⟩:=at_tup0.mp h
   obtain ⟨u,w1,rfl,a1,h⟩:=ats_cons0.mp h
   cases at_str0.mp a1
   exact ⟨a,_,rfl,e2⟩
 | key k =>
   obtain ⟨a,vs,rfl,e2,h⟩:=at_tup0.mp h
   obtain ⟨u,w1,rfl,a1,h⟩:=ats_cons0.mp h
   cases at_str0.mp a1
   exact ⟨a,_,rfl,e2⟩
 | word w =>
   obtain ⟨a,vs,rfl,e2,h⟩:=at_tup0.mp h
   obtain ⟨u,w1,rfl,a1,h⟩:=ats_cons0.mp h
   cases at_str0.mp a1
   exact ⟨a,_,rfl,e2⟩
noncomputable def plc:List Ev→Nat→List (Tr×V)→List (Tr×V)
 | [],_,kvs=>kvs
 | e::es,n,kvs=>plc es (n+1) (putK (putK kvs e.tr (.int (n:Nat))) (.str e.kind) (.int (n:Nat)))
theorem at0:∀ (es:List Ev) (n:Nat) (kvs:List (Tr×V)) (e:Ev),plc (es++[e]) n kvs=putK (putK (plc es n kvs) e.tr (.int ((n+es.length:Nat):Int))) (.str e.kind) (.int ((n+es.length:Nat):Int))
 | [],n,kvs,e=>rfl
 | x::xs,n,kvs,e=>by
   show plc (xs++[e]) (n+1) _=_
   rw [at0 xs (n+1),show n+1+xs.length=n+(x::xs).length by simp; omega]
   rfl
theorem bi1:∀ (es:List Ev) (n:Nat) (kvs:List (Tr×V)),(plc es n kvs).length≤kvs.length+2*es.length
 | [],n,kvs=>Nat.le_refl _
 | x::xs,n,kvs=>by
   refine Nat.le_trans (bi1 xs (n+1) _) ?_
   have h1:=a98 kvs x.tr (.int (n:Nat))
   have h2:=a98 (putK kvs x.tr (.int (n:Nat))) (.str x.kind) (.int (n:Nat))
   simp only [List.length_cons]
   omega
def bi2 (K:W.Frag) (P:Params):Sp:=fun vs H Q _=>∃ (a:Addr) (us:List V) (es:List Ev),vs=[.ref a]∧H a=some (.lst us)∧Tr.Ats H (es.map Ev.tr) us []∧es.length≤1000∧∀ d H',H d=none→Same H H'→DtAt P H' d (plc es 0 [])→Q (.ref d) H'
theorem al4 (T:Txt K mg t):FnOk P w K mg base CX0 1 t.a_places_by t.fd_places_by ["events"] (bi2 K w.params):=by
 refine T.F_places_by.ok sc_places_by (fun vs H Q E h=>?_) (fun cdv A outer s H vs Q E hr h=>?_)
 · obtain ⟨a,us,es,rfl,_⟩:=h
   rfl
 · obtain ⟨a,us,es,rfl,ha,hu,hl,q⟩:=h
   refine ⟨_,(@a02 _ _ _ _ _ (@a45 _ _ 1 _ _ _ _ sc_places_by.nd rfl (by walk_at "o") (az3 w.params) (by rfl) (by walk_at "o"))
    (@a02 _ _ _ _ _ (@ac2 _ _ _ _ _ _ _ _ PassesOwn.never rfl (bx8 K rfl T.z_enumerate (@a00 _ _ _ _ _ (pv 0) (@a01 _) (by rfl))) (ae7 K (n:=2) rfl (a71 (a47 (i:=2) sc_places_by.nd rfl (by walk_at "o")) (a71 (a47 (i:=3) sc_places_by.nd rfl (by walk_at "o")) (@ae5 _)))) (@a02 _ _ _ _ _ (as3 (P:=w.params) rfl (by exact hr.units) (pv 1) (pv 3) (pv 2) rfl)
     (@a06 _ _ _ (as3 (P:=w.params) rfl (by exact hr.units) (pv 1) (@a44 _ _ _ _ _ _ _ (a08 K) (pv 3) (@a03 _ _ _ _) (fun _ _=>rfl)) (pv 2) rfl))) (by intro _; rfl))
    (@a06 _ _ _ (@a54 _ _ _ _ (pv 1))))),?_⟩
   have ul:us.length=es.length:=by rw [hu.len,gL]
   walk_at "go"
   intro d o1 f1 d1
   have s1:Same H (upd H d o1):=Same.new f1
   generalize upd H d o1=H1 at d1 s1
   walk_at "r"
   refine ⟨⟨_,SqL.of (s1 _ _ ha)⟩,bp2 (K:=K) (a:=a) (xs:=us) (fun i σ H'=>i≤es.length∧Same H H'∧DtAt w.params H' d (plc (es.take i) 0 [])∧∃ x y,σ=[some (.ref a),some (.ref d),x,y]) ⟨Nat.zero_le _,s1,d1,_,_,rfl⟩ (fun i σ H' _ ⟨_,s',_⟩=>SqL.of (s' _ _ ha)) ?_ ?_⟩
   · rintro i x σ H2 p H3 hi ⟨hil,s2,hd,x0,y0,rfl⟩ s3 e3
     obtain ⟨tx,hx1,hx2⟩:=aa0 (hu.same (s2.trans s3)) hi
     rw [gM] at hx1
     obtain ⟨e,he,rfl⟩:=gO hx1
     obtain ⟨b,xs,rfl,hb⟩:=cc7 hx2
     have hi':i<es.length:=(gS he).1
     have htk:es.take (i+1)=es.take i++[e]:=by rw [List.take_add_one,he]; rfl
     have hlt:(es.take i).length=i:=by simp; omega
     have hlen:=bi1 (es.take i) 0 []
     refine am3 (SqT.of e3) rfl ?_
     walk_at "r"
     have hd3:=a64 hd s3
     have hth:=e.tr_h
     refine ⟨d,_,e.tr,rfl,hd3,⟨hx2,by omega⟩,Nat.lt_of_lt_of_le (show _<1000000 by simp only [List.length_nil] at hlen; omega) (le_line (Nat.le_refl _)),fun o2 d2=>?_⟩
     obtain ⟨φ,hφ⟩:=hd3.ext
     have t2:Tups H3 (upd H3 d o2):=ah1 hφ
     have s4:Same H (upd H3 d o2):=(s2.trans s3).updNew f1
     generalize upd H3 d o2=H4 at d2 t2 s4
     walk_at "r"
     refine a65 (SqT.of (t2 _ _ hb)) (a04 (j:=0) rfl) ?_
     have hl2:=a98 (plc (es.take i) 0 []) e.tr (.int (i:Nat))
     refine ⟨d,_,.str e.kind,rfl,d2,⟨ag8,by simp [Tr.h]⟩,Nat.lt_of_lt_of_le (show _<1000000 by simp only [List.length_nil] at hlen; omega) (le_line (Nat.le_refl _)),fun o3 d3=>?_⟩
     refine ⟨hi',s4.updNew f1,?_,_,_,rfl⟩
     rw [htk,at0,hlt,Nat.zero_add]
     exact d3
   · rintro σ H2 ⟨_,s2,hd,x0,y0,rfl⟩
     rw [ul,List.take_length] at hd
     walk_at "r"
     exact q d H2 f1 s2 hd
noncomputable def plOf (es:List Ev) (e:Ev):Option V:=(valV (plc es 0 []) e.tr).orElse fun _=>some ((valV (plc es 0 []) (.str e.kind)).getD (.int 0))
def br1 (K:W.Frag) (P:Params):Sp:=fun vs H Q _=>∃ (d:Addr) (v:V) (es:List Ev) (e:Ev),vs=[.ref d,v]∧DtAt P H d (plc es 0 [])∧e.tr.At H v []∧∀ y,plOf es e=some y→Q y H
theorem ao2 (T:Txt K mg t):FnOk P w K mg base CX0 1 t.a_place_of t.fd_place_of ["places","event"] (br1 K w.params):=by
 refine T.F_place_of.ok b04 (fun vs H Q E h=>?_) (fun cdv A outer s H vs Q E hr h=>?_)
 · obtain ⟨d,v,es,e,rfl,_⟩:=h
   rfl
 · obtain ⟨d,v,es,e,rfl,hd,hv,q⟩:=h
   refine ⟨_,(@a02 _ _ _ _ _ (@ad7 _ _ _ _ _ _ _ _ (at8 (cb3 (P:=w.params) rfl (by exact hr.units) (pv 1) (pv 0))) (@a06 _ _ _ (@a54 _ _ _ _ (ak5 (P:=w.params) rfl (by exact hr.units) (pv 0) (pv 1) (fun _ _=>rfl)))) (@a84 _))
    (@a06 _ _ _ (@a54 _ _ _ _ (b54 (P:=w.params) rfl (by exact hr.units) (pv 0) (@a44 _ _ _ _ _ _ _ (a08 K) (pv 1) (@a03 _ _ _ _) (fun _ _=>rfl)) (@a03 _ _ _ _) ⟨by rfl,by rfl,by rfl,by rfl⟩)))),?_⟩
   have hth:=e.tr_h
   obtain ⟨b,xs,rfl,hb⟩:=cc7 hv
   walk_at "go"
   refine ⟨d,_,e.tr,rfl,hd,⟨hv,by omega⟩,?_⟩
   walk_at "r"
   cases hx:valV (plc es 0 []) e.tr with
   | some y =>
     refine bx5 ?_
     walk_at "r"
     refine ⟨d,_,e.tr,y,rfl,hd,⟨hv,by omega⟩,hx,q y ?_⟩
     unfold plOf
     rw [hx]
     rfl
   | none =>
     refine bx6 ?_
     walk_at "r"
     refine ⟨d,_,rfl,hd,?_⟩
     walk_at "r"
     refine a65 (SqT.of hb) (a04 (j:=0) rfl) ?_
     walk_at "r"
     refine ⟨_,.str e.kind,hd,⟨ag8,by simp [Tr.h]⟩,q _ ?_⟩
     unfold plOf
     rw [hx]
     rfl
def strW (s:Str):Tw:=.sc (.str s)
theorem strs_w {H:Hp}:∀ {ss:List Str}{vs:List V}{fs:List Addr},Tw.Ats H (ss.map strW) vs fs↔vs=strsV ss∧fs=[]
 | [],vs,fs=>by simp [Tw.Ats,strsV]
 | s::ss,vs,fs=>by
   simp only [List.map_cons,Tw.Ats,strW,Tw.At]
   constructor
   · rintro ⟨v,ws,f,g,rfl,rfl,⟨rfl,_,rfl⟩,h⟩
     obtain ⟨rfl,rfl⟩:=strs_w.mp h
     exact ⟨rfl,rfl⟩
   · rintro ⟨rfl,rfl⟩
     exact ⟨_,_,[],[],rfl,rfl,⟨rfl,True.intro,rfl⟩,strs_w.mpr ⟨rfl,rfl⟩⟩
def natW (k:Nat):Tw:=.sc (.int (k:Nat))
theorem aw3 {ks:List Nat}{j:Nat}{v:V}(h:(natsV ks)[j]?=some v):∃ k,ks[j]?=some k∧v=.int (k:Nat):=by
 simp only [natsV,gM] at h
 obtain ⟨k,h1,h2⟩:=gO h
 exact ⟨k,h1,h2.symm⟩
theorem aw4 {ks:List Str}{j:Nat}{v:V}(h:(strsV ks)[j]?=some v):∃ k,ks[j]?=some k∧v=.str k:=by
 simp only [strsV,gM] at h
 obtain ⟨k,h1,h2⟩:=gO h
 exact ⟨k,h1,h2.symm⟩
theorem af9 {ks:List Nat}{j k:Nat}(h:ks[j]?=some k):(natsV ks)[j]?=some (.int (k:Nat)):=by
 simp only [natsV,gM,h]
 rfl
theorem br2 {ks:List Str}{j:Nat}{k:Str}(h:ks[j]?=some k):(strsV ks)[j]?=some (.str k):=by
 simp only [strsV,gM,h]
 rfl
noncomputable instance evDec:DecidableEq Ev:=fun _ _=>Classical.propDecidable _
theorem bu6 (e:Ev) (k:Str):¬ e.tr=Tr.str k:=by cases e <;> simp [Ev.tr]
theorem bi3 (es:List Ev) (e:Ev) (t:Tr):valV (plc (es++[e]) 0 []) t=if t=.str e.kind then some (.int (es.length:Nat)) else if t=e.tr then some (.int (es.length:Nat)) else valV (plc es 0 []) t:=by
 rw [at0,ar8,ar8,Nat.zero_add]
theorem cc8 {es:List Ev}(hn:es.Nodup) (e:Ev):∀ i,i≤es.length→(∃ j:Nat,(es.take i)[j]?=some e∧valV (plc (es.take i) 0 []) e.tr=some (.int (j:Nat)))∨(e∉es.take i∧valV (plc (es.take i) 0 []) e.tr=none):=by
 intro i
 induction i with
 | zero=>intro _; exact .inr ⟨by simp,rfl⟩
 | succ i ih =>
   intro hi
   have he:es[i]?=some es[i]:=gE (by omega)
   have htk:es.take (i+1)=es.take i++[es[i]]:=by rw [List.take_add_one,he]; rfl
   have hl:(es.take i).length=i:=by simp; omega
   rw [htk,bi3,if_neg (bu6 e _),hl]
   by_cases h:e.tr=es[i].tr
   · have h':=Ev.tr_inj h
     rw [if_pos h]
     refine .inl ⟨i,?_,rfl⟩
     rw [List.getElem?_append_right (by omega),hl,Nat.sub_self,h']
     rfl
   · rw [if_neg h]
     rcases ih (by omega) with ⟨j,h1,h2⟩ | ⟨h1,h2⟩
     · refine .inl ⟨j,?_,h2⟩
       rw [List.getElem?_append_left (gS h1).1]
       exact h1
     · refine .inr ⟨fun z=>?_,h2⟩
       rcases gA z with z | z
       · exact h1 z
       · exact h (by rw [gG z])
theorem br3 {es:List Ev}(k:Str):∀ i,i≤es.length→(∃ (j:Nat) (x:Ev),j<i∧es[j]?=some x∧x.kind=k∧(∀ (m:Nat) (y:Ev),j<m→m<i→es[m]?=some y→y.kind≠k)∧valV (plc (es.take i) 0 []) (.str k)=some (.int (j:Nat)))∨((∀ (m:Nat) (y:Ev),m<i→es[m]?=some y→y.kind≠k)∧valV (plc (es.take i) 0 []) (.str k)=none):=by
 intro i
 induction i with
 | zero=>intro _; exact .inr ⟨fun m y h=>absurd h (Nat.not_lt_zero _),rfl⟩
 | succ i ih =>
   intro hi
   have he:es[i]?=some es[i]:=gE (by omega)
   have htk:es.take (i+1)=es.take i++[es[i]]:=by rw [List.take_add_one,he]; rfl
   have hl:(es.take i).length=i:=by simp; omega
   rw [htk,bi3,hl]
   by_cases h:k=es[i].kind
   · rw [if_pos (by rw [h])]
     exact .inl ⟨i,es[i],by omega,he,h.symm,fun m y h1 h2=>absurd h1 (by omega),rfl⟩
   · rw [if_neg (by simpa using h),if_neg (fun z=>bu6 _ _ z.symm)]
     rcases ih (by omega) with ⟨j,x,h0,h1,h2,h3,h4⟩ | ⟨h1,h2⟩
     · refine .inl ⟨j,x,by omega,h1,h2,fun m y a b c=>?_,h4⟩
       by_cases hm:m=i
       · subst hm
         rw [he] at c
         cases c
         exact fun z=>h z.symm
       · exact h3 m y a (by omega) c
     · refine .inr ⟨fun m y b c=>?_,h2⟩
       by_cases hm:m=i
       · subst hm
         rw [he] at c
         cases c
         exact fun z=>h z.symm
       · exact h1 m y (by omega) c
def LawPl (es:List Ev) (e:Ev) (j:Nat):Prop:=(e∈es∧es[j]?=some e)∨(e∉es∧((∃ x,es[j]?=some x∧x.kind=e.kind∧∀ (m:Nat) (y:Ev),j<m→es[m]?=some y→y.kind≠e.kind)∨(j=0∧∀ (m:Nat) (y:Ev),es[m]?=some y→y.kind≠e.kind)))
theorem ci0 {es:List Ev}(hn:es.Nodup) {i j:Nat}{e:Ev}(h1:es[i]?=some e) (h2:es[j]?=some e):i=j:=by
 obtain ⟨l1,e1⟩:=gS h1
 obtain ⟨l2,e2⟩:=gS h2
 have pw:=List.pairwise_iff_getElem.mp hn
 rcases Nat.lt_trichotomy i j with h | h | h
 · exact absurd (e1.trans e2.symm) (pw i j l1 l2 h)
 · exact h
 · exact absurd (e2.trans e1.symm) (pw j i l2 l1 h)
theorem c01 {es:List Ev}(hn:es.Nodup) {e:Ev}{j:Nat}(h:LawPl es e j):plOf es e=some (.int (j:Nat)):=by
 have a:=cc8 hn e es.length (Nat.le_refl _)
 have b:=br3 (es:=es) e.kind es.length (Nat.le_refl _)
 rw [List.take_length] at a b
 unfold plOf
 rcases h with ⟨h1,h2⟩ | ⟨h1,h2⟩
 · rcases a with ⟨i,a1,a2⟩ | ⟨a1,_⟩
   · rw [a2,ci0 hn h2 a1]
     rfl
   · exact absurd h1 a1
 · rcases a with ⟨i,a1,_⟩ | ⟨_,a2⟩
   · exact absurd (gI a1) h1
   · rw [a2]
     rcases h2 with ⟨x,k1,k2,k3⟩ | ⟨rfl,k3⟩
     · rcases b with ⟨i,y,b0,b1,b2,b3,b4⟩ | ⟨b1,_⟩
       · rw [b4]
         have:i=j:=by
          rcases Nat.lt_trichotomy i j with h | h | h
          · exact absurd k2 (b3 j x h (gS k1).1 k1)
          · exact h
          · exact absurd b2 (k3 i y h b1)
         rw [this]
         rfl
       · exact absurd k2 (b1 j x (gS k1).1 k1)
     · rcases b with ⟨i,y,b0,b1,b2,b3,b4⟩ | ⟨_,b4⟩
       · exact absurd b2 (k3 i y b1)
       · rw [b4]
         rfl
theorem ci1 {ks:List Nat}{ws:List Str}(h1:ks.Nodup) (h2:ws.Nodup):([Ev.quiet]++ks.map Ev.key++ws.map Ev.word).Nodup:=by
 have i1:(ks.map Ev.key).Nodup:=List.Pairwise.map _ (fun a b hab z=>hab (by injection z)) h1
 have i2:(ws.map Ev.word).Nodup:=List.Pairwise.map _ (fun a b hab z=>hab (by injection z)) h2
 unfold List.Nodup at *
 rw [List.pairwise_append,List.pairwise_append]
 refine ⟨⟨by simp,i1,?_⟩,i2,?_⟩
 · intro a ha b hb z
   obtain ⟨k,_,rfl⟩:=List.mem_map.mp hb
   rw [gG ha] at z
   cases z
 · intro a ha b hb z
   obtain ⟨k,_,rfl⟩:=List.mem_map.mp hb
   rcases gA ha with ha | ha
   · rw [gG ha] at z
     cases z
   · obtain ⟨k',_,rfl⟩:=List.mem_map.mp ha
     cases z
def bi4 (K:W.Frag):Sp:=fun vs H Q _=>∃ (s:Addr) (z:Int),vs=[.ref s]∧StA H s z∧∀ (es:List Ev) p us H',H p=none→H' p=some (.lst us)→Tr.Ats H' (es.map Ev.tr) us []→es.Nodup→es.length≤15→0<es.length→Oth s H H'→StA H' s z→Q (.ref p) H'
theorem of4 {H:Hp}{r:Nat}{a b c d:Addr}(h:r<4):∃ x:Addr,atI [V.ref a,.ref b,.ref c,.ref d] (r:Nat)=some (.ref x)∧(x=a∨x=b∨x=c∨x=d):=by
 have:r=0∨r=1∨r=2∨r=3:=by omega
 rcases this with rfl | rfl | rfl | rfl
 · exact ⟨a,a04 rfl,by simp⟩
 · exact ⟨b,a04 rfl,by simp⟩
 · exact ⟨c,a04 rfl,by simp⟩
 · exact ⟨d,a04 rfl,by simp⟩
theorem StA.ne {H:Hp}{s:Addr}{z:Int}(k:StA H s z) {p:Addr}(h:H p=none):p≠s:=by
 obtain ⟨x,e⟩:=k
 exact (a05 e h).symm
theorem at1 (T:Txt K mg t):FnOk P w K mg base CX0 2 t.a__law_events t.fd__law_events ["state"] (bi4 K):=by
 have G__law_take:=af8 (P:=P) (w:=w) (base:=base) T
 refine T.F__law_events.ok sc_law_events (fun vs H Q E h=>?_) (fun cdv A outer s H vs Q E hr h=>?_)
 · obtain ⟨s,z,rfl,_⟩:=h
   rfl
 · obtain ⟨s0,z,rfl,k,q⟩:=h
   refine ⟨_,(@a02 _ _ _ _ _ (@a45 _ _ 1 _ _ _ _ sc_law_events.nd rfl (by walk_at "o") (@a44 _ _ _ _ _ _ _ (a42 K) (@a48 _ _ _ _ (@a00 _ _ _ _ _ (@a48 _ _ _ _ (@a01 _)) (@a00 _ _ _ _ _ (@a48 _ _ _ _ (@a00 _ _ _ _ _ (@a03 _ _ _ _) (@a01 _) (by rfl))) (@a00 _ _ _ _ _ (@a48 _ _ _ _ (@a00 _ _ _ _ _ (@a03 _ _ _ _) (@a00 _ _ _ _ _ (@a03 _ _ _ _) (@a01 _) (by rfl)) (by rfl))) (@a00 _ _ _ _ _ (@a48 _ _ _ _ (@a00 _ _ _ _ _ (@a03 _ _ _ _) (@a00 _ _ _ _ _ (@a03 _ _ _ _) (@a00 _ _ _ _ _ (@a03 _ _ _ _) (@a01 _) (by rfl)) (by rfl)) (by rfl))) (@a01 _) (by rfl)) (by rfl)) (by rfl)) (by rfl))) (@a40 _ _ _ _ _ _ _ _ _ _ _ _ _ _ _ _ G__law_take (hr.mono (by omega)) rfl T.m__law_take T.F__law_take.kp T.b__law_take .nil a55 (@a00 _ _ _ _ _ (pv 0) (@a00 _ _ _ _ _ (@a03 _ _ _ _) (@a01 _) (by rfl)) (by rfl)) (by decide) (by rfl) (by rfl)) (fun _ _=>rfl)) (by rfl) (by walk_at "o"))
    (@a02 _ _ _ _ _ (@a45 _ _ 2 _ _ _ _ sc_law_events.nd rfl (by walk_at "o") (@a44 _ _ _ _ _ _ _ (a42 K) (@a48 _ _ _ _ (@a00 _ _ _ _ _ (@a48 _ _ _ _ (@a01 _)) (@a00 _ _ _ _ _ (@a48 _ _ _ _ (@a00 _ _ _ _ _ (@ab8 _ _ _ _) (@a01 _) (by rfl))) (@a00 _ _ _ _ _ (@a48 _ _ _ _ (@a00 _ _ _ _ _ (@ab8 _ _ _ _) (@a00 _ _ _ _ _ (@ab8 _ _ _ _) (@a01 _) (by rfl)) (by rfl))) (@a00 _ _ _ _ _ (@a48 _ _ _ _ (@a00 _ _ _ _ _ (@ab8 _ _ _ _) (@a00 _ _ _ _ _ (@ab8 _ _ _ _) (@a00 _ _ _ _ _ (@ab8 _ _ _ _) (@a01 _) (by rfl)) (by rfl)) (by rfl))) (@a01 _) (by rfl)) (by rfl)) (by rfl)) (by rfl))) (@a40 _ _ _ _ _ _ _ _ _ _ _ _ _ _ _ _ G__law_take (hr.mono (by omega)) rfl T.m__law_take T.F__law_take.kp T.b__law_take .nil a55 (@a00 _ _ _ _ _ (pv 0) (@a00 _ _ _ _ _ (@a03 _ _ _ _) (@a01 _) (by rfl)) (by rfl)) (by decide) (by rfl) (by rfl)) (fun _ _=>rfl)) (by rfl) (by walk_at "o"))
    (@a06 _ _ _ (@a54 _ _ _ _ (@a89 _ _ _ _ _ _ _ _ a86 (@a89 _ _ _ _ _ _ _ _ a86 (@a48 _ _ _ _ (@a00 _ _ _ _ _ (@a66 _ _ _ _ _ (@a00 _ _ _ _ _ (@ab8 _ _ _ _) (@a01 _) (by rfl))) (@a01 _) (by rfl))) (ak4 (Nt:=["key"]) (Nf:=[]) (caps:=[]) rfl (ab4 (sc:=defScope a77) rfl rfl (by decide +kernel) (by decide +kernel) (by decide +kernel) rfl (by decide +kernel)) (a69 K (pv 1)) (fun _ _ _ _ _=>(a47 (i:=0) (show (["key"]:List Str).Nodup by decide +kernel) rfl (by walk_at "o"))) (fun _ _ _ _ _=>(@ab5 _)) (fun _ _ _ _ _=>(@a66 _ _ _ _ _ (@a00 _ _ _ _ _ (@ab8 _ _ _ _) (@a00 _ _ _ _ _ (pv 0) (@a01 _) (by rfl)) (by rfl)))))) (ak4 (Nt:=["word"]) (Nf:=[]) (caps:=[]) rfl (ab4 (sc:=defScope a77) rfl rfl (by decide +kernel) (by decide +kernel) (by decide +kernel) rfl (by decide +kernel)) (a69 K (pv 2)) (fun _ _ _ _ _=>(a47 (i:=0) (show (["word"]:List Str).Nodup by decide +kernel) rfl (by walk_at "o"))) (fun _ _ _ _ _=>(@ab5 _)) (fun _ _ _ _ _=>(@a66 _ _ _ _ _ (@a00 _ _ _ _ _ (@ab8 _ _ _ _) (@a00 _ _ _ _ _ (pv 0) (@a01 _) (by rfl)) (by rfl)))))))))),?_⟩
   walk_at "go"
   intro pa H1 f1 s1 e1
   walk_at "r"
   intro pb H2 f2 s2 e2
   walk_at "r"
   intro pc H3 f3 s3 e3
   walk_at "r"
   intro pd H4 f4 s4 e4
   walk_at "r"
   intro pe H5 f5 s5 e5
   walk_at "r"
   have s05:=s1.trans (s2.trans (s3.trans (s4.trans s5)))
   have k5:=k.same s05
   refine ⟨s0,z,4,rfl,k5,by decide,by decide,fun r H6 hr o6 k6=>?_⟩
   obtain ⟨pk,hpk,hor⟩:=of4 (H:=H) (a:=pa) (b:=pb) (c:=pc) (d:=pd) hr
   refine a93 (SqL.of (o6 _ _ (k.ne ((s1.trans (s2.trans (s3.trans s4))).free f5)) e5)) hpk ?_
   walk_at "r"
   obtain ⟨ks,hk6,hknd,kl,hpks⟩:∃ ks:List Nat,H6 pk=some (.lst (natsV ks))∧ks.Nodup∧ks.length≤10∧pk≠s0:=by
    rcases hor with rfl | rfl | rfl | rfl
    · exact ⟨[],o6 _ _ (k.ne f1) ((s2.trans (s3.trans (s4.trans s5))) _ _ e1),by simp,by simp,k.ne f1⟩
    · exact ⟨[3],o6 _ _ (k.ne (s1.free f2)) ((s3.trans (s4.trans s5)) _ _ e2),by simp,by simp,k.ne (s1.free f2)⟩
    · exact ⟨[0,9],o6 _ _ (k.ne ((s1.trans s2).free f3)) ((s4.trans s5) _ _ e3),by simp,by simp,k.ne ((s1.trans s2).free f3)⟩
    · exact ⟨[1,2,7],o6 _ _ (k.ne ((s1.trans (s2.trans s3)).free f4)) (s5 _ _ e4),by simp,by simp,k.ne ((s1.trans (s2.trans s3)).free f4)⟩
   have oA:Oth s0 H H6:=(ad9 s05).trans o6
   clear hor hpk o6 e1 e2 e3 e4 e5 f1 f2 f3 f4 f5 s1 s2 s3 s4 s5 s05 k5
   intro pa H1 f1 s1 e1
   walk_at "r"
   intro pb H2 f2 s2 e2
   walk_at "r"
   intro pc H3 f3 s3 e3
   walk_at "r"
   intro pd H4 f4 s4 e4
   walk_at "r"
   intro pe H5 f5 s5 e5
   walk_at "r"
   have s05:=s1.trans (s2.trans (s3.trans (s4.trans s5)))
   have k5:=k6.same s05
   refine ⟨s0,z,4,rfl,k5,by decide,by decide,fun r2 H7 hr2 o7 k7=>?_⟩
   obtain ⟨pw,hpw,hor⟩:=of4 (H:=H) (a:=pa) (b:=pb) (c:=pc) (d:=pd) hr2
   refine a93 (SqL.of (o7 _ _ (k6.ne ((s1.trans (s2.trans (s3.trans s4))).free f5)) e5)) hpw ?_
   walk_at "r"
   obtain ⟨ws,e4',hwnd,wl⟩:∃ ws:List Str,H7 pw=some (.lst (strsV ws))∧ws.Nodup∧ws.length≤4:=by
    rcases hor with rfl | rfl | rfl | rfl
    · exact ⟨[],o7 _ _ (k6.ne f1) ((s2.trans (s3.trans (s4.trans s5))) _ _ e1),by simp,by simp⟩
    · exact ⟨["a"],o7 _ _ (k6.ne (s1.free f2)) ((s3.trans (s4.trans s5)) _ _ e2),by simp,by simp⟩
    · exact ⟨["no","yes"],o7 _ _ (k6.ne ((s1.trans s2).free f3)) ((s4.trans s5) _ _ e3),by decide +kernel,by simp⟩
    · exact ⟨["z","b","abcdefgh"],o7 _ _ (k6.ne ((s1.trans (s2.trans s3)).free f4)) (s5 _ _ e4),by decide +kernel,by simp⟩
   have oB:Oth s0 H H7:=oA.trans ((ad9 s05).trans o7)
   have e14:H7 pk=some (.lst (natsV ks)):=o7 _ _ hpks (s05 _ _ hk6)
   clear hor hpw o7 e1 e2 e3 e4 e5 f1 f2 f3 f4 f5 s1 s2 s3 s4 s5 s05 k5 k6 hk6
   intro p5 H5 f5 s5 e5
   walk_at "r"
   intro p6 H6 f6 s6 e6
   walk_at "r"
   have s46:=s5.trans s6
   refine ⟨⟨_,SqL.of (s46 _ _ e14)⟩,ae6 (xs:=natsV ks) (le_line (by rw [a56]; omega)) (fun i acc H'=>i≤ks.length∧acc.length=i∧Same H6 H'∧Tr.Ats H' (((ks.take i).map Ev.key).map Ev.tr) acc []) ⟨Nat.zero_le _,rfl,Same.refl _,ats_nil0.mpr rfl⟩ (fun i acc H' ⟨_,e,s',_⟩=>⟨by omega,SqL.of ((s46.trans s') _ _ e14)⟩) ?_ ?_⟩
   · rintro i x acc H' hx ⟨hi,ea,s',hat⟩
     obtain ⟨k0,hk0,rfl⟩:=aw3 hx
     walk_at "r"
     intro p7 H7 f7 s7 e7
     refine ⟨(gS hk0).1,by simp [ea],s'.trans s7,?_⟩
     rw [List.take_add_one,hk0,show ks.take i++(some k0).toList=ks.take i++[k0] from rfl,List.map_append,List.map_append]
     exact ats_app0.mpr ⟨_,_,rfl,hat.same s7,ats_cons0.mpr ⟨_,_,rfl,ay8 e7 ag8 am5,ats_nil0.mpr rfl⟩⟩
   · rintro acc H' ⟨_,ea,s',hat⟩ p8 H8 f8 s8 e8
     rw [a56,List.take_length] at hat
     have al:acc.length≤10:=by rw [ea,a56]; exact kl
     walk_at "r"
     refine ai5 ((s'.trans s8) _ _ e6) e8 (le_line (by simp; omega)) ?_
     intro p9 H9 f9 s9 e9
     walk_at "r"
     have s49:=s46.trans (s'.trans (s8.trans s9))
     refine ⟨⟨_,SqL.of (s49 _ _ e4')⟩,ae6 (xs:=strsV ws) (le_line (by simp [strsV]; omega)) (fun i acc H'=>i≤ws.length∧acc.length=i∧Same H9 H'∧Tr.Ats H' (((ws.take i).map Ev.word).map Ev.tr) acc []) ⟨Nat.zero_le _,rfl,Same.refl _,ats_nil0.mpr rfl⟩ (fun i acc H' ⟨_,e,s',_⟩=>⟨by omega,SqL.of ((s49.trans s') _ _ e4')⟩) ?_ ?_⟩
     · rintro i x acc H' hx ⟨hi,ea,s',hat⟩
       obtain ⟨k0,hk0,rfl⟩:=aw4 hx
       walk_at "r"
       intro p7 H7 f7 s7 e7
       refine ⟨(gS hk0).1,by simp [ea],s'.trans s7,?_⟩
       rw [List.take_add_one,hk0,show ws.take i++(some k0).toList=ws.take i++[k0] from rfl,List.map_append,List.map_append]
       exact ats_app0.mpr ⟨_,_,rfl,hat.same s7,ats_cons0.mpr ⟨_,_,rfl,ay8 e7 ag8 ag8,ats_nil0.mpr rfl⟩⟩
     · rintro acc2 H10 ⟨_,ea2,s10,hat2⟩ p11 H11 f11 s11 e11
       rw [show (strsV ws).length=ws.length by simp [strsV],List.take_length] at hat2
       have al2:acc2.length≤4:=by rw [ea2]; simp [strsV]; omega
       walk_at "r"
       have s911:=s10.trans s11
       refine ai5 (s911 _ _ e9) e11 (le_line (by simp; omega)) ?_
       intro p12 H12 f12 s12 e12
       have s412:=s49.trans (s911.trans s12)
       refine q ([Ev.quiet]++ks.map Ev.key++ws.map Ev.word) p12 _ H12 ?_ e12 ?_ (ci1 hknd hwnd) (by simp; omega) (by simp) (oB.trans (ad9 s412)) (k7.same s412)
       · exact oB.free k7 (s49.free (s911.free f12))
       · rw [List.map_append,List.map_append]
         refine ats_app0.mpr ⟨_,_,rfl,ats_app0.mpr ⟨_,_,rfl,ats_cons0.mpr ⟨_,_,rfl,?_,ats_nil0.mpr rfl⟩,hat.same (s8.trans (s9.trans (s911.trans s12)))⟩,hat2.same (s11.trans s12)⟩
         exact at_tup0.mpr ⟨p5,_,rfl,(s6.trans (s'.trans (s8.trans (s9.trans (s911.trans s12))))) _ _ e5,ats_cons0.mpr ⟨_,_,rfl,ag8,ats_nil0.mpr rfl⟩⟩
def blocks (ls:List (List Nat)):List Nat:=ls.flatMap fun l=>l.length::l
def offF (b:Nat) (ls:List (List Nat)) (k:Nat):Nat:=b+(blocks (ls.take k)).length
def offsT (b:Nat) (ls:List (List Nat)) (k:Nat):List Nat:=(List.range k).map (offF b ls)
def offs (b:Nat) (ls:List (List Nat)):List Nat:=offsT b ls (ls.length+1)
theorem aq6 (b:Nat) (ls:List (List Nat)) (k:Nat):offsT b ls (k+1)=offsT b ls k++[offF b ls k]:=by
 unfold offsT
 rw [List.range_succ,List.map_append]
 rfl
theorem bi5 {b:Nat}{ls:List (List Nat)}{k:Nat}(h:k≤ls.length):(offs b ls)[k]?=some (offF b ls k):=by
 unfold offs offsT
 rw [gM,List.getElem?_range (by omega)]
 rfl
theorem bi6 {b:Nat}{ls:List (List Nat)}{k:Nat}{l:List Nat}(h:ls[k]?=some l):offF b ls (k+1)=offF b ls k+(1+l.length):=by
 unfold offF
 rw [List.take_add_one,h]
 simp only [Option.toList_some,blocks,List.flatMap_append,List.length_append,List.flatMap_cons,List.flatMap_nil,List.append_nil,List.length_cons]
 omega
theorem aw5 (b:Nat) (ls:List (List Nat)):offF b ls ls.length=b+(blocks ls).length:=by
 unfold offF
 rw [List.take_length]
theorem at2 {cells pre post:List Nat}{ls:List (List Nat)}(hc:cells=pre++(blocks ls++post)) {k:Nat}{l:List Nat}(h:ls[k]?=some l):cells[offF pre.length ls k]?=some l.length∧(cells.drop (offF pre.length ls k+1)).take l.length=l:=by
 have e:blocks ls=blocks (ls.take k)++(l.length::(l++blocks (ls.drop (k+1)))):=by
  conv=>lhs; rw [← List.take_append_drop k ls,List.drop_eq_getElem_cons (gS h).1]
  rw [(gS h).2]
  simp [blocks]
 have e2:cells=(pre++blocks (ls.take k))++(l.length::(l++(blocks (ls.drop (k+1))++post))):=by rw [hc,e]; simp
 have el:offF pre.length ls k=(pre++blocks (ls.take k)).length:=by simp [offF]
 rw [el,e2]
 constructor
 · rw [List.getElem?_append_right (Nat.le_refl _),Nat.sub_self]
   rfl
 · rw [List.drop_append,List.drop_of_length_le (by omega),Nat.add_sub_cancel_left]
   simp
def bi7 (K:W.Frag):Sp:=fun vs H Q _=>∃ (c:Addr) (cells pre post:List Nat) (ls:List (List Nat)),vs=[.ref c,.int (pre.length:Nat),.int (ls.length:Nat)]∧H c=some (.lst (natsV cells))∧cells=pre++(blocks ls++post)∧ls.length≤1000∧∀ p H',H p=none→Same H H'→H' p=some (.lst (natsV (offs pre.length ls)))→Q (.ref p) H'
theorem ao3 (T:Txt K mg t):FnOk P w K mg base CX0 1 t.a_block_places t.fd_block_places ["cells","place","count"] (bi7 K):=by
 refine T.F_block_places.ok sc_block_places (fun vs H Q E h=>?_) (fun cdv A outer s H vs Q E hr h=>?_)
 · obtain ⟨c,cells,pre,post,ls,rfl,_⟩:=h
   rfl
 · obtain ⟨c,cells,pre,post,ls,rfl,hc,hcl,hll,q⟩:=h
   refine ⟨_,(@a02 _ _ _ _ _ (@a45 _ _ 3 _ _ _ _ sc_block_places.nd rfl (by walk_at "o") (@a48 _ _ _ _ (@a00 _ _ _ _ _ (pv 1) (@a01 _) (by rfl))) (by rfl) (by walk_at "o"))
    (@a02 _ _ _ _ _ (@al7 _ _ _ _ _ _ PassesOwn.never (@a62 _ _ _ _ _ _ _ _ c59 (@a59 _ _ _ _ _ _ _ _ _ (aa6 K) (by rfl) T.z_len ab9 (@a00 _ _ _ _ _ (pv 3) (@a01 _) (by rfl)) (by decide) (by decide) (by rfl) (by rfl)) (pv 2) (nomark _)) (@a02 _ _ _ _ _ (@ad7 _ _ _ _ _ _ _ _ (@PW.pt _ _ _ (@bl5 _ _ _ _ _ _ _ (@a62 _ _ _ _ _ _ _ _ ce9 (pv 1) (@a59 _ _ _ _ _ _ _ _ _ (aa6 K) (by rfl) T.z_len ab9 (@a00 _ _ _ _ _ (pv 0) (@a01 _) (by rfl)) (by decide) (by decide) (by rfl) (by rfl)) (nomark _)) (@b45 _ _ _ _ (@a62 _ _ _ _ _ _ _ _ bv4 (@a44 _ _ _ _ _ _ _ (a42 K) (pv 0) (pv 1) (fun _ _=>rfl)) (@a03 _ _ _ _) (nomark _))))) (@a06 _ _ _ (@a54 _ _ _ _ (@af0 _ _ _))) (@a84 _))
     (@a02 _ _ _ _ _ (@bb2 _ _ 1 _ _ _ _ _ _ sc_block_places.nd rfl (by walk_at "o") (@a89 _ _ _ _ _ _ _ _ a86 (@a03 _ _ _ _) (@a44 _ _ _ _ _ _ _ (a42 K) (pv 0) (pv 1) (fun _ _=>rfl))) bb3 (by walk_at "o"))
     (@a06 _ _ _ (@ab3 _ _ _ _ (@af2 _ K _ _ _ _ _ _ _ _ _ _ _ PySem.F.plainAttrs_list PySem.F.slot_list_append PySem.F.type_list_append ad2 (pv 3) (@a00 _ _ _ _ _ (pv 1) (@a01 _) (by rfl)) (by rfl) (by rfl) (by rfl) (by rfl) (by rfl) (by rfl)) (by rfl))))))
    (@a06 _ _ _ (@a54 _ _ _ _ (@al6 _ _ _ _ _ _ _ _ (@a62 _ _ _ _ _ _ _ _ c59 (pv 1) (@a59 _ _ _ _ _ _ _ _ _ (aa6 K) (by rfl) T.z_len ab9 (@a00 _ _ _ _ _ (pv 0) (@a01 _) (by rfl)) (by decide) (by decide) (by rfl) (by rfl)) (nomark _)) (pv 3) (@af0 _ _ _)))))),?_⟩
   have sl:(1000000:Nat)≤sizeLine:=le_line (Nat.le_refl _)
   walk_at "go"
   intro pf H1 f1 s1 e1
   walk_at "r"
   refine as0 (fun m σ H'=>Same H H'∧∃ k:Nat,k≤ls.length∧σ=[some (.ref c),some (.int (offF pre.length ls k:Nat)),some (.int (ls.length:Nat)),some (.ref pf)]∧m=ls.length - k∧H' pf=some (.lst (natsV (offsT pre.length ls (k+1))))) ls.length ⟨s1,0,Nat.zero_le _,by simp [offF,blocks],rfl,by rw [e1]; simp [offsT,offF,blocks,natsV]⟩ ?_
   rintro m σ H2 ⟨s2,k,hk,rfl,rfl,hpf⟩
   walk_at "r"
   refine ad3 (SqL.of hpf) ?_
   walk_at "r"
   have ol:(natsV (offsT pre.length ls (k+1))).length=k+1:=by simp [natsV,offsT]
   rw [ol]
   have hc2:=s2 _ _ hc
   refine ite2 (fun hd=>?_) (fun hd=>?_)
   · have hkl:k<ls.length:=by have:=of_decide_eq_true hd; omega
     have el:ls[k]?=some ls[k]:=gE hkl
     obtain ⟨h1,h2⟩:=at2 hcl el
     have hlt:offF pre.length ls k<cells.length:=(gS h1).1
     refine ⟨fun σ' H'=>Same H H'∧σ'=[some (.ref c),some (.int (offF pre.length ls (k+1):Nat)),some (.int (ls.length:Nat)),some (.ref pf)]∧H' pf=some (.lst (natsV (offsT pre.length ls (k+1+1)))),fun σ' H' ⟨s',e,h⟩=>⟨ls.length - (k+1),by omega,s',k+1,hkl,e,rfl,h⟩,?_⟩
     walk_at "r"
     refine ad3 (SqL.of hc2) ?_
     walk_at "r"
     rw [a56]
     refine ite2 (fun hx=>?_) (fun hx=>?_)
     · exfalso
       have:=of_decide_eq_true hx
       omega
     walk_at "r"
     refine a93 (SqL.of hc2) (a04 (af9 h1)) ?_
     walk_at "r"
     refine ite2 (fun hx=>?_) (fun hx=>?_)
     · exfalso
       have:=of_decide_eq_true hx
       omega
     walk_at "r"
     refine cc5 rfl ?_
     walk_at "r"
     refine a93 (SqL.of hc2) (a04 (af9 h1)) ?_
     walk_at "r"
     dsimp only [List.set_cons_zero,List.set_cons_succ]
     refine aj4 (SqL.of hpf) ?_
     walk_at "r"
     refine ae4 hpf (by rw [ol]; omega) ?_
     have eo:((offF pre.length ls k:Nat):Int)+(1+(ls[k].length:Nat))=((offF pre.length ls (k+1):Nat):Int):=by rw [bi6 el]; omega
     rw [eo]
     refine ⟨s2.updNew f1,rfl,?_⟩
     rw [a41,ac0,←aq6]
   · have hkl:k=ls.length:=by
      have:¬ (k+1:Int)≤ls.length:=fun z=>hd (decide_eq_true (by omega))
      omega
     subst hkl
     walk_at "r"
     refine ad3 (SqL.of hc2) ?_
     walk_at "r"
     rw [a56]
     have hle:offF pre.length ls ls.length≤cells.length:=by rw [aw5,hcl]; simp
     refine ite2 (fun hx=>?_) (fun hx=>?_)
     · walk_at "r"
       exact q pf H2 f1 s2 hpf
     · exfalso
       exact hx (decide_eq_true (by omega))
def b94 (K:W.Frag):Sp:=fun vs H Q _=>∃ (c:Addr) (cells l:List Nat) (pl:Nat),vs=[.ref c,.int (pl:Nat)]∧H c=some (.lst (natsV cells))∧cells[pl]?=some l.length∧(cells.drop (pl+1)).take l.length=l∧∀ p H',H p=none→Same H H'→H' p=some (.lst (natsV l))→Q (.ref p) H'
theorem b58 {ns:List Nat}{j k:Nat}:cutV (natsV ns) (some (j:Int)) (some (k:Int))=natsV ((ns.drop j).take (k - j)):=by
 rw [av4,bn7,←List.map_drop,←List.map_take,←av4]
theorem ao4 (T:Txt K mg t):FnOk P w K mg base CX0 1 t.a_cells_in t.fd_cells_in ["cells","place"] (b94 K):=by
 refine T.F_cells_in.ok b03 (fun vs H Q E h=>?_) (fun cdv A outer s H vs Q E hr h=>?_)
 · obtain ⟨c,cells,l,pl,rfl,_⟩:=h
   rfl
 · obtain ⟨c,cells,l,pl,rfl,hc,h1,h2,q⟩:=h
   refine ⟨_,(@a06 _ _ _ (@a54 _ _ _ _ (@ah7 _ _ _ _ _ _ _ _ _ _ (ai0 K) (pv 0) (@ag6 _ _ _ (@a89 _ _ _ _ _ _ _ _ a86 (pv 1) (@a03 _ _ _ _))) (@ag6 _ _ _ (@a89 _ _ _ _ _ _ _ _ a86 (@a89 _ _ _ _ _ _ _ _ a86 (pv 1) (@a03 _ _ _ _)) (@a44 _ _ _ _ _ _ _ (a42 K) (pv 0) (pv 1) (fun _ _=>rfl))))))),?_⟩
   walk_at "go"
   refine a93 (SqL.of hc) (a04 (af9 h1)) ?_
   walk_at "r"
   refine b83 (SqL.of hc) ?_
   rw [show ((pl:Nat):Int)+1=((pl+1:Nat):Int) by omega,show ((pl+1:Nat):Int)+(l.length:Nat)=((pl+1+l.length:Nat):Int) by omega,b58,Nat.add_sub_cancel_left,h2]
   intro p H1 f1 s1 e1
   exact q p H1 f1 s1 e1
def txOf (txs:List Str) (l:List Nat):List Str:=l.map fun n=>txs.getD n (Str.ofString "")
def b95 (K:W.Frag):Sp:=fun vs H Q _=>∃ (t c:Addr) (txs:List Str) (cells l:List Nat) (pl:Nat),vs=[.ref t,.ref c,.int (pl:Nat)]∧H t=some (.lst (strsV txs))∧H c=some (.lst (natsV cells))∧cells[pl]?=some l.length∧(cells.drop (pl+1)).take l.length=l∧(∀ n∈l,n<txs.length)∧l.length≤1000∧∀ p H',H p=none→Same H H'→H' p=some (.lst (strsV (txOf txs l)))→Q (.ref p) H'
theorem cc9 {txs:List Str}{n:Nat}(h:n<txs.length):(strsV txs)[n]?=some (.str (txs.getD n (Str.ofString ""))):=by
 refine br2 ?_
 rw [List.getD_eq_getElem?_getD,gE h]
 rfl
theorem bi8 {txs:List Str}{l:List Nat}{i n:Nat}(e:l[i]?=some n):strsV (txOf txs (l.take i))++[V.str (txs.getD n (Str.ofString ""))]=strsV (txOf txs (l.take (i+1))):=by
 rw [List.take_add_one,e]
 simp [txOf,strsV]
theorem b07 (T:Txt K mg t):FnOk P w K mg base CX0 2 t.a_texts_at t.fd_texts_at ["texts","cells","place"] (b95 K):=by
 have G_cells_in:=ao4 (P:=P) (w:=w) (base:=base) T
 refine T.F_texts_at.ok b02 (fun vs H Q E h=>?_) (fun cdv A outer s H vs Q E hr h=>?_)
 · obtain ⟨t,c,txs,cells,l,pl,rfl,_⟩:=h
   rfl
 · obtain ⟨tx,c,txs,cells,l,pl,rfl,ht,hc,h1,h2,hlt,hll,q⟩:=h
   refine ⟨_,(@a06 _ _ _ (@a54 _ _ _ _ (ak4 (Nt:=["number"]) (Nf:=["texts"]) (caps:=[0]) rfl (ab4 (sc:=defScope aa3) rfl rfl (by decide +kernel) (by decide +kernel) (by decide +kernel) rfl (by decide +kernel)) (a69 K (@a40 _ _ _ _ _ _ _ _ _ _ _ _ _ _ _ _ G_cells_in (hr.mono (by omega)) rfl T.m_cells_in T.F_cells_in.kp T.b_cells_in .nil a55 (@a00 _ _ _ _ _ (pv 1) (@a00 _ _ _ _ _ (pv 2) (@a01 _) (by rfl)) (by rfl)) (by decide) (by rfl) (by rfl))) (fun _ _ _ _ _=>(a47 (i:=0) (show (["number","texts"]:List Str).Nodup by decide +kernel) rfl (by walk_at "o"))) (fun _ _ _ _ _=>(@ab5 _)) (fun _ _ _ _ _=>(@a44 _ _ _ _ _ _ _ (a42 K) (pv 1) (pv 0) (fun _ _=>rfl)))))),?_⟩
   walk_at "go"
   refine ⟨c,cells,l,pl,rfl,hc,h1,h2,fun p1 H1 f1 s1 e1=>?_⟩
   refine ⟨p1,rfl,⟨_,SqL.of e1⟩,ae6 (xs:=natsV l) (le_line (by rw [a56]; omega)) (fun i acc H'=>H'=H1∧i≤l.length∧acc=strsV (txOf txs (l.take i))) ⟨rfl,Nat.zero_le _,rfl⟩ (fun i acc H' ⟨e,hi,ea⟩=>⟨by rw [ea]; simp [strsV,txOf]; omega,e ▸ SqL.of e1⟩) ?_ ?_⟩
   · rintro i x acc H' hx ⟨rfl,hi,rfl⟩
     obtain ⟨n,hn,rfl⟩:=aw3 hx
     walk_at "r"
     refine a93 (SqL.of (s1 _ _ ht)) (a04 (cc9 (hlt n (gI hn)))) ?_
     exact ⟨rfl,(gS hn).1,bi8 hn⟩
   · rintro acc H' ⟨rfl,_,rfl⟩ p2 H2 f2 s2 e2
     rw [a56,List.take_length] at e2
     exact q p2 H2 (s1.free f2) (s1.trans s2) e2
abbrev Tri:=Nat×Nat×Nat
abbrev Sh:=(Nat×Nat)×List Tri
def al0 (ts:List Tri):List Nat:=ts.flatMap fun t=>[t.1,t.2.1,t.2.2]
def shL (h:Sh):List Nat:=h.1.1::h.1.2::al0 h.2
theorem ah4:∀ ts:List Tri,(al0 ts).length=ts.length*3
 | []=>rfl
 | t::ts=>by
   have:=ah4 ts
   simp only [al0,List.flatMap_cons,List.length_append,List.length_cons,List.length_nil] at this ⊢
   omega
theorem b59:∀ {ts:List Tri}{i:Nat}{t:Tri},ts[i]?=some t→((al0 ts).drop (i*3)).take 3=[t.1,t.2.1,t.2.2]∧(al0 ts)[i*3]?=some t.1∧(al0 ts)[i*3+1]?=some t.2.1∧(al0 ts)[i*3+2]?=some t.2.2
 | [],i,t,h=>by simp at h
 | x::ts,0,t,h=>by
   obtain rfl:x=t:=by simpa using h
   refine ⟨?_,?_,?_,?_⟩ <;> simp [al0]
 | x::ts,i+1,t,h=>by
   obtain ⟨h1,h2,h3,h4⟩:=b59 (ts:=ts) (i:=i) (t:=t) (by simpa using h)
   have e:al0 (x::ts)=[x.1,x.2.1,x.2.2]++al0 ts:=rfl
   rw [e,show (i+1)*3=i*3+3 by omega]
   refine ⟨?_,?_,?_,?_⟩
   · simpa using h1
   · simpa using h2
   · rw [show i*3+3+1=i*3+1+3 by omega]; simpa using h3
   · rw [show i*3+3+2=i*3+2+3 by omega]; simpa using h4
theorem ce0 {h:Sh}{i:Nat}{t:Tri}(e:h.2[i]?=some t):((shL h).drop (2+i*3)).take 3=[t.1,t.2.1,t.2.2]∧(shL h)[2+i*3]?=some t.1∧(shL h)[2+i*3+1]?=some t.2.1∧(shL h)[2+i*3+2]?=some t.2.2:=by
 obtain ⟨h1,h2,h3,h4⟩:=b59 e
 unfold shL
 rw [show 2+i*3=i*3+1+1 by omega,show i*3+1+1+1=i*3+1+1+1 from rfl]
 refine ⟨?_,?_,?_,?_⟩
 · simpa using h1
 · simpa using h2
 · rw [show i*3+1+1+1=(i*3+1)+1+1 by omega]; simpa using h3
 · rw [show i*3+1+1+2=(i*3+2)+1+1 by omega]; simpa using h4
def tripW (t:Tri):Tw:=.tup [natW t.1,natW t.2.1,natW t.2.2]
theorem trip_w {H:Hp}{t:Tri}{v:V}{fs:List Addr}:(tripW t).At H v fs↔∃ k,v=.ref k∧H k=some (.tup [.int (t.1:Nat),.int (t.2.1:Nat),.int (t.2.2:Nat)])∧fs=[]:=by
 simp only [tripW,natW,Tw.At,Tw.Ats]
 constructor
 · rintro ⟨a,vs,rfl,e,v,ws,f,g,rfl,rfl,⟨rfl,_,rfl⟩,v',ws',f',g',rfl,rfl,⟨rfl,_,rfl⟩,v2,ws2,f2,g2,rfl,rfl,⟨rfl,_,rfl⟩,rfl,rfl⟩
   exact ⟨a,rfl,e,rfl⟩
 · rintro ⟨k,rfl,e,rfl⟩
   exact ⟨k,_,rfl,e,_,_,[],[],rfl,rfl,⟨rfl,True.intro,rfl⟩,_,_,[],[],rfl,rfl,⟨rfl,True.intro,rfl⟩,_,_,[],[],rfl,rfl,⟨rfl,True.intro,rfl⟩,rfl,rfl⟩
def bi9 (K:W.Frag):Sp:=fun vs H Q _=>∃ (s:Addr) (h:Sh),vs=[.ref s]∧H s=some (.lst (natsV (shL h)))∧h.2.length≤1000∧∀ p acc H',H p=none→Same H H'→H' p=some (.lst acc)→Tw.Ats H' (h.2.map tripW) acc []→Q (.ref p) H'
theorem br4 (n:Nat):as5 2 ((n*3+2:Nat):Int)=n:=by
 unfold as5
 omega
theorem aw6 (T:Txt K mg t):FnOk P w K mg base CX0 1 t.a_others_in t.fd_others_in ["shape"] (bi9 K):=by
 refine T.F_others_in.ok aw1 (fun vs H Q E h=>?_) (fun cdv A outer s H vs Q E hr h=>?_)
 · obtain ⟨s,h,rfl,_⟩:=h
   rfl
 · obtain ⟨s0,sh,rfl,hs,hl,q⟩:=h
   refine ⟨_,(@a06 _ _ _ (@a54 _ _ _ _ (ak4 (Nt:=["place"]) (Nf:=["shape"]) (caps:=[0]) rfl (ab4 (sc:=defScope a91) rfl rfl (by decide +kernel) (by decide +kernel) (by decide +kernel) rfl (by decide +kernel)) (bg2 rfl T.z_range (@a00 _ _ _ _ _ (@a03 _ _ _ _) (@a00 _ _ _ _ _ (@a59 _ _ _ _ _ _ _ _ _ (aa6 K) (by rfl) T.z_len ab9 (@a00 _ _ _ _ _ (pv 0) (@a01 _) (by rfl)) (by decide) (by decide) (by rfl) (by rfl)) (@a00 _ _ _ _ _ (@a03 _ _ _ _) (@a01 _) (by rfl)) (by rfl)) (by rfl))) (fun _ _ _ _ _=>(a47 (i:=0) (show (["place","shape"]:List Str).Nodup by decide +kernel) rfl (by walk_at "o"))) (fun _ _ _ _ _=>(@ab5 _)) (fun _ _ _ _ _=>(@a63 _ _ _ _ _ _ _ _ _ (af1 K) (by rfl) T.z_tuple ai1 (@a00 _ _ _ _ _ (@ah7 _ _ _ _ _ _ _ _ _ _ (ai0 K) (pv 1) (@ag6 _ _ _ (pv 0)) (@ag6 _ _ _ (@a89 _ _ _ _ _ _ _ _ a86 (pv 0) (@a03 _ _ _ _)))) (@a01 _) (by rfl)) (by decide) (by decide) (by rfl) (by rfl)))))),?_⟩
   walk_at "go"
   refine ad3 (SqL.of hs) ?_
   walk_at "r"
   have hle:(natsV (shL sh)).length=sh.2.length*3+2:=by rw [a56]; simp [shL,ah4]
   rw [hle]
   refine ⟨2,_,rfl,⟨by omega,by omega,by omega,by omega⟩,?_⟩
   rw [br4]
   refine bg3 (n:=sh.2.length) (le_line (by omega)) (fun i acc H'=>i≤sh.2.length∧acc.length=i∧Same H H'∧Tw.Ats H' ((sh.2.take i).map tripW) acc []) ⟨Nat.zero_le _,rfl,Same.refl _,by simp [Tw.Ats]⟩ (fun i acc H' ⟨_,e,_⟩=>by omega) ?_ ?_
   · rintro i acc H1 hi ⟨hil,ea,s1,hat⟩
     have et:sh.2[i]?=some sh.2[i]:=gE hi
     obtain ⟨x1,_⟩:=ce0 et
     walk_at "r"
     refine b83 (SqL.of (s1 _ _ hs)) ?_
     rw [show (2:Int)+(i:Nat)*3=((2+i*3:Nat):Int) by omega,show ((2+i*3:Nat):Int)+3=((2+i*3+3:Nat):Int) by omega,b58,Nat.add_sub_cancel_left,x1]
     intro p2 H2 f2 s2 e2
     walk_at "r"
     refine ai2 (SqL.of e2) ?_
     intro p3 H3 f3 s3 e3
     refine ⟨hi,by simp [ea],s1.trans (s2.trans s3),?_⟩
     rw [List.take_add_one,et,List.map_append]
     exact Tw.Ats.snoc (gs:=[]) (hat.same (s2.trans s3)) (trip_w.mpr ⟨p3,rfl,e3,rfl⟩)
   · rintro acc H1 ⟨_,ea,s1,hat⟩ p2 H2 f2 s2 e2
     rw [List.take_length] at hat
     exact q p2 acc H2 (s1.free f2) (s1.trans s2) e2 (hat.same s2)
structure Pk where
 told:List Nat
 shs:List Sh
 sys:List (List Nat)
 say:Nat
def Pk.cells (k:Pk):List Nat:=k.told.length::k.sys.length::k.shs.length::k.say::(k.told++(blocks (k.shs.map shL)++blocks k.sys))
def Pk.pre1 (k:Pk):List Nat:=k.told.length::k.sys.length::k.shs.length::k.say::k.told
def Pk.pre2 (k:Pk):List Nat:=k.pre1++blocks (k.shs.map shL)
theorem Pk.c1 (k:Pk):k.cells=k.pre1++(blocks (k.shs.map shL)++blocks k.sys):=by simp [Pk.cells,Pk.pre1]
theorem Pk.c2 (k:Pk):k.cells=k.pre2++(blocks k.sys++[]):=by simp [Pk.cells,Pk.pre2,Pk.pre1]
theorem Pk.l1 (k:Pk):k.pre1.length=4+k.told.length:=by simp [Pk.pre1]; omega
theorem Pk.l2 (k:Pk):k.pre2.length=offF k.pre1.length (k.shs.map shL) (k.shs.map shL).length:=by rw [aw5]; simp [Pk.pre2]
theorem Pk.at4 (k:Pk) {i t:Nat}(h:k.told[i]?=some t):k.cells[4+i]?=some t:=by
 unfold Pk.cells
 rw [show 4+i=i+1+1+1+1 by omega]
 simp only [List.getElem?_cons_succ]
 rw [List.getElem?_append_left (gS h).1,h]
structure PkOk (k:Pk) (T:Nat):Prop where
 nt:k.told.length≤100
 n0:0<k.told.length
 nsh:k.shs.length≤100
 nsy:k.sys.length≤100
 told:∀ t∈k.told,t / 2<k.shs.length
 sh:∀ h∈k.shs,h.1.1<k.sys.length∧h.1.2<k.told.length∧(∀ t∈h.2,t.2.1<k.sys.length∧t.2.2<k.told.length)∧(h.2.map (·.1)).Nodup∧h.2.length≤100
 sy:∀ l∈k.sys,l.length≤100∧∀ n∈l,n<T
 say:k.say<k.sys.length
def pm (d tx c sh sy:Addr):List (Str×V):=putF "sayings" (.ref sy) (putF "shapes" (.ref sh) (putF "cells" (.ref c) (putF "texts" (.ref tx) (putF "places" (.ref d) []))))
theorem bj0 (d tx c sh sy:Addr):(pm d tx c sh sy).lookup ("places":Str)=some (.ref d):=by
 unfold pm
 rw [a07,if_neg (by decide +kernel),a07,if_neg (by decide +kernel),a07,if_neg (by decide +kernel),a07,if_neg (by decide +kernel),a07,if_pos rfl]
theorem br5 (d tx c sh sy:Addr):(pm d tx c sh sy).lookup ("texts":Str)=some (.ref tx):=by
 unfold pm
 rw [a07,if_neg (by decide +kernel),a07,if_neg (by decide +kernel),a07,if_neg (by decide +kernel),a07,if_pos rfl]
theorem aj8 (d tx c sh sy:Addr):(pm d tx c sh sy).lookup ("cells":Str)=some (.ref c):=by
 unfold pm
 rw [a07,if_neg (by decide +kernel),a07,if_neg (by decide +kernel),a07,if_pos rfl]
theorem bj1 (d tx c sh sy:Addr):(pm d tx c sh sy).lookup ("shapes":Str)=some (.ref sh):=by
 unfold pm
 rw [a07,if_neg (by decide +kernel),a07,if_pos rfl]
theorem b96 (d tx c sh sy:Addr):(pm d tx c sh sy).lookup ("sayings":Str)=some (.ref sy):=by
 unfold pm
 rw [a07,if_pos rfl]
theorem b97 (d tx c sh sy:Addr) {m:Str}(h1:¬ m="sayings") (h2:¬ m="shapes") (h3:¬ m="cells") (h4:¬ m="texts") (h5:¬ m="places"):(pm d tx c sh sy).lookup m=none:=by
 unfold pm
 rw [a07,if_neg h1,a07,if_neg h2,a07,if_neg h3,a07,if_neg h4,a07,if_neg h5]
 all_goals rfl
structure PAt (P:Params) (C:Addr) (H:Hp) (p d tx c sh sy:Addr) (es:List Ev) (txs:List Str) (k:Pk):Prop where
 ex:∃ dx,H p=some (.ins C dx (pm d tx c sh sy))∧DtAt P H d (plc es 0 [])∧H tx=some (.lst (strsV txs))∧H c=some (.lst (natsV k.cells))∧H sh=some (.lst (natsV (offs k.pre1.length (k.shs.map shL))))∧H sy=some (.lst (natsV (offs k.pre2.length k.sys)))
theorem PAt.same {P:Params}{C p d tx c sh sy:Addr}{H H':Hp}{es:List Ev}{txs:List Str}{k:Pk}(m:PAt P C H p d tx c sh sy es txs k) (s:Same H H'):PAt P C H' p d tx c sh sy es txs k:=by
 obtain ⟨dx,h1,h2,h3,h4,h5,h6⟩:=m.ex
 exact ⟨dx,s _ _ h1,a64 h2 s,s _ _ h3,s _ _ h4,s _ _ h5,s _ _ h6⟩
def sp_init (K:W.Frag) (P:Params) (C:Addr):Sp:=fun vs H Q _=>∃ (p dx tt a b c:Addr) (us:List V) (es:List Ev) (txs:List Str) (k:Pk),vs=[.ref p,.ref tt]∧H p=some (.ins C dx [])∧H tt=some (.tup [.ref a,.ref b,.ref c])∧H a=some (.lst us)∧Tr.Ats H (es.map Ev.tr) us []∧es.length≤100∧H b=some (.lst (strsV txs))∧H c=some (.lst (natsV k.cells))∧PkOk k txs.length ∧
 ∀ d tx c' sh sy H',PAt P C H' p d tx c' sh sy es txs k→(∀ x∈[d,tx,c',sh,sy],H x=none)→(∀ x o,H x=some o→x≠p→H' x=some o)→Q .non H'
theorem ag0 (T:Txt K mg t):FnOk P w K mg base CX0 2 t.a_PackMachine___init__ t.fd_PackMachine___init__ ["self","pack"] (sp_init K w.params t.c_PackMachine):=by
 have G_block_places:=ao3 (P:=P) (w:=w) (base:=base) T
 have G_places_by:=al4 (P:=P) (w:=w) (base:=base) T
 refine T.F_PackMachine___init__.ok af7 (fun vs H Q E h=>?_) (fun cdv A outer s H vs Q E hr h=>?_)
 · obtain ⟨p,dx,tt,a,b,c,us,es,txs,k,rfl,_⟩:=h
   rfl
 · obtain ⟨p,dx,tt,a,b,c,us,es,txs,k,rfl,hp,h1,h2,h3,hel,h4,h5,ok,q⟩:=h
   refine ⟨_,(@a02 _ _ _ _ _ (ah2 K (pv 0) (@a40 _ _ _ _ _ _ _ _ _ _ _ _ _ _ _ _ G_places_by (hr.mono (by omega)) rfl T.m_places_by T.F_places_by.kp T.b_places_by .nil a55 (@a00 _ _ _ _ _ (@a44 _ _ _ _ _ _ _ (a08 K) (pv 1) (@a03 _ _ _ _) (fun _ _=>rfl)) (@a01 _) (by rfl)) (by decide) (by rfl) (by rfl)) rfl)
    (@a02 _ _ _ _ _ (ah2 K (pv 0) (@a63 _ _ _ _ _ _ _ _ _ (ad0 K) (by rfl) T.z_list ac8 (@a00 _ _ _ _ _ (@a44 _ _ _ _ _ _ _ (a08 K) (pv 1) (@a03 _ _ _ _) (fun _ _=>rfl)) (@a01 _) (by rfl)) (by decide) (by decide) (by rfl) (by rfl)) rfl)
    (@a02 _ _ _ _ _ (ah2 K (pv 0) (@a63 _ _ _ _ _ _ _ _ _ (ad0 K) (by rfl) T.z_list ac8 (@a00 _ _ _ _ _ (@a44 _ _ _ _ _ _ _ (a08 K) (pv 1) (@a03 _ _ _ _) (fun _ _=>rfl)) (@a01 _) (by rfl)) (by decide) (by decide) (by rfl) (by rfl)) rfl)
    (@a02 _ _ _ _ _ (ah2 K (pv 0) (@a40 _ _ _ _ _ _ _ _ _ _ _ _ _ _ _ _ G_block_places (hr.mono (by omega)) rfl T.m_block_places T.F_block_places.kp T.b_block_places .nil a55 (@a00 _ _ _ _ _ (a99 K (pv 0) rfl) (@a00 _ _ _ _ _ (@a89 _ _ _ _ _ _ _ _ a86 (ak2 (by rfl) T.m_HEAD (by exact T.r_HEAD)) (@a44 _ _ _ _ _ _ _ (a42 K) (a99 K (pv 0) rfl) (@a03 _ _ _ _) (fun _ _=>rfl))) (@a00 _ _ _ _ _ (@a44 _ _ _ _ _ _ _ (a42 K) (a99 K (pv 0) rfl) (@a03 _ _ _ _) (fun _ _=>rfl)) (@a01 _) (by rfl)) (by rfl)) (by rfl)) (by decide) (by rfl) (by rfl)) rfl)
    (@a06 _ _ _ (ah2 K (pv 0) (@a40 _ _ _ _ _ _ _ _ _ _ _ _ _ _ _ _ G_block_places (hr.mono (by omega)) rfl T.m_block_places T.F_block_places.kp T.b_block_places .nil a55 (@a00 _ _ _ _ _ (a99 K (pv 0) rfl) (@a00 _ _ _ _ _ (@a44 _ _ _ _ _ _ _ (a42 K) (a99 K (pv 0) rfl) (@ce8 _ _ _ _ _ _ c58 (@a03 _ _ _ _)) (fun _ _=>rfl)) (@a00 _ _ _ _ _ (@a44 _ _ _ _ _ _ _ (a42 K) (a99 K (pv 0) rfl) (@a03 _ _ _ _) (fun _ _=>rfl)) (@a01 _) (by rfl)) (by rfl)) (by rfl)) (by decide) (by rfl) (by rfl)) rfl)))))),?_⟩
   have np:∀ {x:Addr}{o:HO},H x=some o→(∀ C dx fs,o≠.ins C dx fs)→x≠p:=fun e z=>ag4 e hp (z _ _ _)
   have ntt:=np h1 (fun _ _ _ z=>nomatch z)
   have nb:=np h4 (fun _ _ _ z=>nomatch z)
   have nc:=np h5 (fun _ _ _ z=>nomatch z)
   walk_at "go"
   refine a65 (SqT.of h1) (a04 (j:=0) rfl) ?_
   walk_at "r"
   refine ⟨a,us,es,rfl,h2,h3,by omega,fun d H1 f1 s1 d1=>?_⟩
   walk_at "r"
   refine ⟨p,_,dx,_,rfl,s1 _ _ hp,T.cl_PackMachine,T.n_PackMachine_places,by decide,?_⟩
   have hdp:d≠p:=(a05 hp f1).symm
   have eA:upd H1 p (.ins t.c_PackMachine dx (putF "places" (.ref d) [])) p=some (.ins t.c_PackMachine dx (putF "places" (.ref d) [])):=a41
   have kA:∀ x o,x≠p→H x=some o→upd H1 p (.ins t.c_PackMachine dx (putF "places" (.ref d) [])) x=some o:=fun x o z e=>by rw [a09 z]; exact s1 _ _ e
   have dA:DtAt w.params (upd H1 p (.ins t.c_PackMachine dx (putF "places" (.ref d) []))) d (plc es 0 []):=d1.mono (ac5 (s1 _ _ hp)) (a09 hdp)
   generalize upd H1 p (.ins t.c_PackMachine dx (putF "places" (.ref d) []))=HA at eA kA dA
   have frA:∀ {x:Addr},HA x=none→H x=none:=fun {x} z=>by
    cases e:H x with
    | none=>rfl
    | some o =>
      rw [kA x o (fun q=>by rw [q,eA] at z; cases z) e] at z
      cases z
   walk_at "r"
   refine a65 (SqT.of (kA _ _ ntt h1)) (a04 (j:=1) rfl) ?_
   walk_at "r"
   refine ae8 (SqL.of (kA _ _ nb h4)) ?_
   intro pt H3 f3 s3 e3
   walk_at "r"
   have l1:=a95 "places" (V.ref d) []
   rw [List.length_nil] at l1
   refine ⟨p,_,dx,_,rfl,s3 _ _ eA,T.cl_PackMachine,T.n_PackMachine_texts,by omega,?_⟩
   have l2:=a95 "texts" (V.ref pt) (putF "places" (V.ref d) [])
   have htp:pt≠p:=(a05 eA f3).symm
   have eB:upd H3 p (.ins t.c_PackMachine dx (putF "texts" (.ref pt) (putF "places" (.ref d) []))) p=some (.ins t.c_PackMachine dx (putF "texts" (.ref pt) (putF "places" (.ref d) []))):=a41
   have kB:∀ x o,x≠p→HA x=some o→upd H3 p (.ins t.c_PackMachine dx (putF "texts" (.ref pt) (putF "places" (.ref d) []))) x=some o:=fun x o z e=>by rw [a09 z]; exact s3 _ _ e
   have tB:upd H3 p (.ins t.c_PackMachine dx (putF "texts" (.ref pt) (putF "places" (.ref d) []))) pt=some (.lst (strsV txs)):=by rw [a09 htp]; exact e3
   have dB:DtAt w.params (upd H3 p (.ins t.c_PackMachine dx (putF "texts" (.ref pt) (putF "places" (.ref d) [])))) d (plc es 0 []):=(a64 dA s3).mono (ac5 (s3 _ _ eA)) (a09 hdp)
   generalize upd H3 p (.ins t.c_PackMachine dx (putF "texts" (.ref pt) (putF "places" (.ref d) [])))=HB at eB kB tB dB
   have frB:∀ {x:Addr},HB x=none→HA x=none:=fun {x} z=>by
    cases e:HA x with
    | none=>rfl
    | some o =>
      rw [kB x o (fun q=>by rw [q,eB] at z; cases z) e] at z
      cases z
   walk_at "r"
   refine a65 (SqT.of (kB _ _ ntt (kA _ _ ntt h1))) (a04 (j:=2) rfl) ?_
   walk_at "r"
   refine ae8 (SqL.of (kB _ _ nc (kA _ _ nc h5))) ?_
   intro pc H4 f4 s4 e4
   walk_at "r"
   refine ⟨p,_,dx,_,rfl,s4 _ _ eB,T.cl_PackMachine,T.n_PackMachine_cells,by omega,?_⟩
   have l3:=a95 "cells" (V.ref pc) (putF "texts" (V.ref pt) (putF "places" (V.ref d) []))
   have hcp:pc≠p:=(a05 eB f4).symm
   have eC:upd H4 p (.ins t.c_PackMachine dx (putF "cells" (.ref pc) (putF "texts" (.ref pt) (putF "places" (.ref d) [])))) p=some (.ins t.c_PackMachine dx (putF "cells" (.ref pc) (putF "texts" (.ref pt) (putF "places" (.ref d) [])))):=a41
   have kC:∀ x o,x≠p→HB x=some o→upd H4 p (.ins t.c_PackMachine dx (putF "cells" (.ref pc) (putF "texts" (.ref pt) (putF "places" (.ref d) [])))) x=some o:=fun x o z e=>by rw [a09 z]; exact s4 _ _ e
   have cC:upd H4 p (.ins t.c_PackMachine dx (putF "cells" (.ref pc) (putF "texts" (.ref pt) (putF "places" (.ref d) [])))) pc=some (.lst (natsV k.cells)):=by rw [a09 hcp]; exact e4
   have dC:DtAt w.params (upd H4 p (.ins t.c_PackMachine dx (putF "cells" (.ref pc) (putF "texts" (.ref pt) (putF "places" (.ref d) []))))) d (plc es 0 []):=(a64 dB s4).mono (ac5 (s4 _ _ eB)) (a09 hdp)
   generalize upd H4 p (.ins t.c_PackMachine dx (putF "cells" (.ref pc) (putF "texts" (.ref pt) (putF "places" (.ref d) []))))=HC at eC kC cC dC
   have frC:∀ {x:Addr},HC x=none→HB x=none:=fun {x} z=>by
    cases e:HB x with
    | none=>rfl
    | some o =>
      rw [kC x o (fun q=>by rw [q,eC] at z; cases z) e] at z
      cases z
   have tC':=kC _ _ htp tB
   have lkC:(putF "cells" (V.ref pc) (putF "texts" (V.ref pt) (putF "places" (V.ref d) []))).lookup ("cells":Str)=some (.ref pc):=by rw [a07,if_pos rfl]
   walk_at "r"
   refine ⟨p,_,dx,_,_,rfl,eC,T.cl_PackMachine,T.n_PackMachine_cells,lkC,?_⟩
   walk_at "r"
   refine ⟨p,_,dx,_,_,rfl,eC,T.cl_PackMachine,T.n_PackMachine_cells,lkC,?_⟩
   walk_at "r"
   refine a93 (SqL.of cC) (v:=.int (k.told.length:Nat)) (a04 (j:=0) rfl) ?_
   walk_at "r"
   refine ⟨p,_,dx,_,_,rfl,eC,T.cl_PackMachine,T.n_PackMachine_cells,lkC,?_⟩
   walk_at "r"
   refine a93 (SqL.of cC) (v:=.int (k.shs.length:Nat)) (a04 (j:=2) rfl) ?_
   walk_at "r"
   rw [show (4:Int)+(k.told.length:Nat)=((k.pre1.length:Nat):Int) by rw [k.l1]; omega,show ((k.shs.length:Nat):Int)=(((k.shs.map shL).length:Nat):Int) by simp]
   have n1:=ok.nsh
   have n2:=ok.nsy
   refine ⟨pc,k.cells,k.pre1,blocks k.sys,k.shs.map shL,rfl,cC,k.c1,by simp; omega,fun ph H5 f5 s5 e5=>?_⟩
   walk_at "r"
   refine ⟨p,_,dx,_,rfl,s5 _ _ eC,T.cl_PackMachine,T.n_PackMachine_shapes,by omega,?_⟩
   have l4:=a95 "shapes" (V.ref ph) (putF "cells" (V.ref pc) (putF "texts" (V.ref pt) (putF "places" (V.ref d) [])))
   have hhp:ph≠p:=(a05 eC f5).symm
   have eD:upd H5 p (.ins t.c_PackMachine dx (putF "shapes" (.ref ph) (putF "cells" (.ref pc) (putF "texts" (.ref pt) (putF "places" (.ref d) []))))) p=some (.ins t.c_PackMachine dx (putF "shapes" (.ref ph) (putF "cells" (.ref pc) (putF "texts" (.ref pt) (putF "places" (.ref d) []))))):=a41
   have kD:∀ x o,x≠p→HC x=some o→upd H5 p (.ins t.c_PackMachine dx (putF "shapes" (.ref ph) (putF "cells" (.ref pc) (putF "texts" (.ref pt) (putF "places" (.ref d) []))))) x=some o:=fun x o z e=>by rw [a09 z]; exact s5 _ _ e
   have hD:upd H5 p (.ins t.c_PackMachine dx (putF "shapes" (.ref ph) (putF "cells" (.ref pc) (putF "texts" (.ref pt) (putF "places" (.ref d) []))))) ph=some (.lst (natsV (offs k.pre1.length (k.shs.map shL)))):=by rw [a09 hhp]; exact e5
   have dD:DtAt w.params (upd H5 p (.ins t.c_PackMachine dx (putF "shapes" (.ref ph) (putF "cells" (.ref pc) (putF "texts" (.ref pt) (putF "places" (.ref d) [])))))) d (plc es 0 []):=(a64 dC s5).mono (ac5 (s5 _ _ eC)) (a09 hdp)
   generalize upd H5 p (.ins t.c_PackMachine dx (putF "shapes" (.ref ph) (putF "cells" (.ref pc) (putF "texts" (.ref pt) (putF "places" (.ref d) [])))))=HD at eD kD hD dD
   have frD:∀ {x:Addr},HD x=none→HC x=none:=fun {x} z=>by
    cases e:HC x with
    | none=>rfl
    | some o =>
      rw [kD x o (fun q=>by rw [q,eD] at z; cases z) e] at z
      cases z
   have cD:=kD _ _ hcp cC
   have tD:=kD _ _ htp tC'
   have lkD:(putF "shapes" (V.ref ph) (putF "cells" (V.ref pc) (putF "texts" (V.ref pt) (putF "places" (V.ref d) [])))).lookup ("cells":Str)=some (.ref pc):=by rw [a07,if_neg (by decide +kernel),a07,if_pos rfl]
   have lkE:(putF "shapes" (V.ref ph) (putF "cells" (V.ref pc) (putF "texts" (V.ref pt) (putF "places" (V.ref d) [])))).lookup ("shapes":Str)=some (.ref ph):=by rw [a07,if_pos rfl]
   walk_at "r"
   refine ⟨p,_,dx,_,_,rfl,eD,T.cl_PackMachine,T.n_PackMachine_cells,lkD,?_⟩
   walk_at "r"
   refine ⟨p,_,dx,_,_,rfl,eD,T.cl_PackMachine,T.n_PackMachine_shapes,lkE,?_⟩
   walk_at "r"
   refine a93 (SqL.of hD) (v:=.int (k.pre2.length:Nat)) (by
    unfold offs
    rw [aq6,←ac0,←k.l2]
    exact bm4 _ _) ?_
   walk_at "r"
   refine ⟨p,_,dx,_,_,rfl,eD,T.cl_PackMachine,T.n_PackMachine_cells,lkD,?_⟩
   walk_at "r"
   refine a93 (SqL.of cD) (v:=.int (k.sys.length:Nat)) (a04 (j:=1) rfl) ?_
   walk_at "r"
   refine ⟨pc,k.cells,k.pre2,[],k.sys,rfl,cD,k.c2,by omega,fun py H6 f6 s6 e6=>?_⟩
   walk_at "r"
   refine ⟨p,_,dx,_,rfl,s6 _ _ eD,T.cl_PackMachine,T.n_PackMachine_sayings,by omega,?_⟩
   have hyp:py≠p:=(a05 eD f6).symm
   have kE:∀ x o,x≠p→HD x=some o→upd H6 p (.ins t.c_PackMachine dx (pm d pt pc ph py)) x=some o:=fun x o z e=>by rw [a09 z]; exact s6 _ _ e
   walk_at "r"
   refine q d pt pc ph py _ ⟨dx,a41,(a64 dD s6).mono (ac5 (s6 _ _ eD)) (a09 hdp),kE _ _ htp tD,kE _ _ hcp cD,kE _ _ hhp hD,by rw [a09 hyp]; exact e6⟩ ?_ fun x o e z=>kE x o z (kD x o z (kC x o z (kB x o z (kA x o z e))))
   intro x hx
   simp only [List.mem_cons,List.not_mem_nil,or_false] at hx
   rcases hx with rfl | rfl | rfl | rfl | rfl
   · exact f1
   · exact frA f3
   · exact frA (frB f4)
   · exact frA (frB (frC f5))
   · exact frA (frB (frC (frD f6)))
def bj2 (K:W.Frag) (P:Params) (C:Addr):Sp:=fun vs H Q _=>∃ (p d tx c sh sy:Addr) (es:List Ev) (txs:List Str) (k:Pk) (n:Nat) (l:List Nat),vs=[.ref p,.int (n:Nat)]∧PAt P C H p d tx c sh sy es txs k∧PkOk k txs.length∧k.sys[n]?=some l∧∀ pl H',H pl=none→Same H H'→H' pl=some (.lst (strsV (txOf txs l)))→Q (.ref pl) H'
theorem ac7 (T:Txt K mg t):FnOk P w K mg base CX0 3 t.a_PackMachine_said_by t.fd_PackMachine_said_by ["self","saying"] (bj2 K w.params t.c_PackMachine):=by
 have G_texts_at:=b07 (P:=P) (w:=w) (base:=base) T
 refine T.F_PackMachine_said_by.ok ag3 (fun vs H Q E h=>?_) (fun cdv A outer s H vs Q E hr h=>?_)
 · obtain ⟨p,d,tx,c,sh,sy,es,txs,k,n,l,rfl,_⟩:=h
   rfl
 · obtain ⟨p,d,tx,c,sh,sy,es,txs,k,n,l,rfl,hM,ok,hn,q⟩:=h
   refine ⟨_,(@a06 _ _ _ (@a54 _ _ _ _ (@a40 _ _ _ _ _ _ _ _ _ _ _ _ _ _ _ _ G_texts_at (hr.mono (by omega)) rfl T.m_texts_at T.F_texts_at.kp T.b_texts_at .nil a55 (@a00 _ _ _ _ _ (a99 K (pv 0) rfl) (@a00 _ _ _ _ _ (a99 K (pv 0) rfl) (@a00 _ _ _ _ _ (@a44 _ _ _ _ _ _ _ (a42 K) (a99 K (pv 0) rfl) (pv 1) (fun _ _=>rfl)) (@a01 _) (by rfl)) (by rfl)) (by rfl)) (by decide) (by rfl) (by rfl)))),?_⟩
   obtain ⟨dx,h1,h2,h3,h4,h5,h6⟩:=hM.ex
   obtain ⟨o1,o2⟩:=ok.sy l (gI hn)
   obtain ⟨x1,x2⟩:=at2 k.c2 hn
   walk_at "go"
   refine ⟨p,_,dx,_,_,rfl,h1,T.cl_PackMachine,T.n_PackMachine_texts,br5 _ _ _ _ _,?_⟩
   walk_at "r"
   refine ⟨p,_,dx,_,_,rfl,h1,T.cl_PackMachine,T.n_PackMachine_cells,aj8 _ _ _ _ _,?_⟩
   walk_at "r"
   refine ⟨p,_,dx,_,_,rfl,h1,T.cl_PackMachine,T.n_PackMachine_sayings,b96 _ _ _ _ _,?_⟩
   walk_at "r"
   refine a93 (SqL.of h6) (a04 (af9 (bi5 (Nat.le_of_lt (gS hn).1)))) ?_
   walk_at "r"
   exact ⟨tx,c,txs,k.cells,l,_,rfl,h3,h4,x1,x2,o2,by omega,fun pl H1 f1 s1 e1=>q pl H1 f1 s1 e1⟩
def sp_begin (K:W.Frag) (P:Params) (C:Addr):Sp:=fun vs H Q _=>∃ (p d tx c sh sy:Addr) (es:List Ev) (txs:List Str) (k:Pk) (l:List Nat),vs=[.ref p]∧PAt P C H p d tx c sh sy es txs k∧PkOk k txs.length∧k.sys[k.say]?=some l∧∀ kk pl H',H pl=none→Same H H'→H' kk=some (.tup [.ref pl,.int 0])→H' pl=some (.lst (strsV (txOf txs l)))→Q (.ref kk) H'
theorem ad6 (T:Txt K mg t):FnOk P w K mg base CX0 4 t.a_PackMachine_begin t.fd_PackMachine_begin ["self"] (sp_begin K w.params t.c_PackMachine):=by
 have G_PackMachine_said_by:=ac7 (P:=P) (w:=w) (base:=base) T
 refine T.F_PackMachine_begin.ok ai4 (fun vs H Q E h=>?_) (fun cdv A outer s H vs Q E hr h=>?_)
 · obtain ⟨p,d,tx,c,sh,sy,es,txs,k,l,rfl,_⟩:=h
   rfl
 · obtain ⟨p,d,tx,c,sh,sy,es,txs,k,l,rfl,hM,ok,hn,q⟩:=h
   refine ⟨_,(@a06 _ _ _ (@a54 _ _ _ _ (@a66 _ _ _ _ _ (@a00 _ _ _ _ _ (af3 (pv 0) T.cl_PackMachine T.M_PackMachine_said_by G_PackMachine_said_by (hr.mono (by omega)) T.b_PackMachine_said_by .nil a55 (@a00 _ _ _ _ _ (@a44 _ _ _ _ _ _ _ (a42 K) (a99 K (pv 0) rfl) (@a89 _ _ _ _ _ _ _ _ c57 (ak2 (by rfl) T.m_HEAD (by exact T.r_HEAD)) (@a03 _ _ _ _)) (fun _ _=>rfl)) (@a01 _) (by rfl))) (@a00 _ _ _ _ _ (@a03 _ _ _ _) (@a01 _) (by rfl)) (by rfl))))),?_⟩
   obtain ⟨dx,h1,h2,h3,h4,h5,h6⟩:=hM.ex
   walk_at "go"
   refine ⟨p,dx,_,rfl,h1,b97 _ _ _ _ _ (by decide +kernel) (by decide +kernel) (by decide +kernel) (by decide +kernel) (by decide +kernel),?_⟩
   walk_at "r"
   refine ⟨p,_,dx,_,_,rfl,h1,T.cl_PackMachine,T.n_PackMachine_cells,aj8 _ _ _ _ _,?_⟩
   walk_at "r"
   refine a93 (SqL.of h4) (v:=.int (k.say:Nat)) (a04 (j:=3) rfl) ?_
   walk_at "r"
   refine ⟨p,d,tx,c,sh,sy,es,txs,k,k.say,l,rfl,hM,ok,hn,fun pl H1 f1 s1 e1=>?_⟩
   walk_at "r"
   intro p2 H2 f2 s2 e2
   exact q p2 pl H2 f1 (s1.trans s2) e2 (s2 _ _ e1)
def sp_over (K:W.Frag) (P:Params) (C:Addr):Sp:=fun vs H Q _=>∃ (p d tx c sh sy:Addr) (es:List Ev) (txs:List Str) (k:Pk) (n t:Nat),vs=[.ref p,.int (n:Nat)]∧PAt P C H p d tx c sh sy es txs k∧k.told[n]?=some t∧Q (.bl (decide ((t:Int) % 2=1))) H
theorem ab7 (T:Txt K mg t):FnOk P w K mg base CX0 1 t.a_PackMachine_over t.fd_PackMachine_over ["self","standing"] (sp_over K w.params t.c_PackMachine):=by
 refine T.F_PackMachine_over.ok ai6 (fun vs H Q E h=>?_) (fun cdv A outer s H vs Q E hr h=>?_)
 · obtain ⟨p,d,tx,c,sh,sy,es,txs,k,n,t,rfl,_⟩:=h
   rfl
 · obtain ⟨p,d,tx,c,sh,sy,es,txs,k,n,tl,rfl,hM,hn,q⟩:=h
   refine ⟨_,(@a06 _ _ _ (@a54 _ _ _ _ (@bc2 _ _ _ _ _ _ _ _ at9 (@a89 _ _ _ _ _ _ _ _ ai9 (@a44 _ _ _ _ _ _ _ (a42 K) (a99 K (pv 0) rfl) (@a89 _ _ _ _ _ _ _ _ a86 (ak2 (by rfl) T.m_HEAD (by exact T.r_HEAD)) (pv 1)) (fun _ _=>rfl)) (@a03 _ _ _ _)) (@a03 _ _ _ _) (nomark _)))),?_⟩
   obtain ⟨dx,h1,h2,h3,h4,h5,h6⟩:=hM.ex
   walk_at "go"
   refine ⟨p,_,dx,_,_,rfl,h1,T.cl_PackMachine,T.n_PackMachine_cells,aj8 _ _ _ _ _,?_⟩
   walk_at "r"
   rw [show (4:Int)+(n:Nat)=((4+n:Nat):Int) by omega]
   refine a93 (SqL.of h4) (a04 (af9 (k.at4 hn))) ?_
   walk_at "r"
   exact q
def pick (h:Sh) (j:Nat):Nat×Nat:=match h.2.find? (fun t=>t.1 == j) with
 | some t=>t.2
 | none=>h.1
theorem bj3 {h:Sh}{j i:Nat}{t:Tri}(e:h.2[i]?=some t) (hj:t.1=j) (hn:∀ x∈h.2.take i,¬ x.1=j):pick h j=t.2:=by
 have e2:h.2=h.2.take i++t::h.2.drop (i+1):=by
  conv=>lhs; rw [← List.take_append_drop i h.2,List.drop_eq_getElem_cons (gS e).1]
  rw [(gS e).2]
 have hf:h.2.find? (fun t=>t.1 == j)=some t:=by
  rw [e2,List.find?_append,List.find?_eq_none.mpr fun x hx=>by simpa using hn x hx]
  simp [hj]
 unfold pick
 rw [hf]
theorem bj4 {h:Sh}{j:Nat}(hn:∀ x∈h.2,¬ x.1=j):pick h j=h.1:=by
 unfold pick
 rw [List.find?_eq_none.mpr fun x hx=>by simpa using hn x hx]
def sp_step (K:W.Frag) (P:Params) (C:Addr):Sp:=fun vs H Q _=>∃ (p d tx c sh sy:Addr) (es:List Ev) (txs:List Str) (k:Pk) (n t j:Nat) (h:Sh) (v:V) (e:Ev) (l:List Nat),vs=[.ref p,.int (n:Nat),v]∧PAt P C H p d tx c sh sy es txs k∧PkOk k txs.length∧k.told[n]?=some t∧k.shs[t / 2]?=some h∧e.tr.At H v []∧plOf es e=some (.int (j:Nat))∧k.sys[(pick h j).1]?=some l∧∀ kk pl H',H pl=none→Same H H'→H' kk=some (.tup [.ref pl,.int ((pick h j).2:Nat)])→H' pl=some (.lst (strsV (txOf txs l)))→Q (.ref kk) H'
theorem ae2 (T:Txt K mg t):FnOk P w K mg base CX0 4 t.a_PackMachine_step t.fd_PackMachine_step ["self","standing","event"] (sp_step K w.params t.c_PackMachine):=by
 have G_PackMachine_said_by:=ac7 (P:=P) (w:=w) (base:=base) T
 have G_cells_in:=ao4 (P:=P) (w:=w) (base:=base) T
 have G_others_in:=aw6 (P:=P) (w:=w) (base:=base) T
 have G_place_of:=ao2 (P:=P) (w:=w) (base:=base) T
 refine T.F_PackMachine_step.ok sc_PackMachine_step (fun vs H Q E h=>?_) (fun cdv A outer s H vs Q E hr h=>?_)
 · obtain ⟨p,d,tx,c,sh,sy,es,txs,k,n,t,j,h,v,e,l,rfl,_⟩:=h
   rfl
 · obtain ⟨p,d,tx,c,sh,sy,es,txs,k,n,tl,j,h,v,e,l,rfl,hM,ok,hn,hh,hv,hj,hl,q⟩:=h
   refine ⟨_,(@a02 _ _ _ _ _ (@a45 _ _ 3 _ _ _ _ sc_PackMachine_step.nd rfl (by walk_at "o") (@a40 _ _ _ _ _ _ _ _ _ _ _ _ _ _ _ _ G_cells_in (hr.mono (by omega)) rfl T.m_cells_in T.F_cells_in.kp T.b_cells_in .nil a55 (@a00 _ _ _ _ _ (a99 K (pv 0) rfl) (@a00 _ _ _ _ _ (@a44 _ _ _ _ _ _ _ (a42 K) (a99 K (pv 0) rfl) (@a89 _ _ _ _ _ _ _ _ ar2 (@a44 _ _ _ _ _ _ _ (a42 K) (a99 K (pv 0) rfl) (@a89 _ _ _ _ _ _ _ _ a86 (ak2 (by rfl) T.m_HEAD (by exact T.r_HEAD)) (pv 1)) (fun _ _=>rfl)) (@a03 _ _ _ _)) (fun _ _=>rfl)) (@a01 _) (by rfl)) (by rfl)) (by decide) (by rfl) (by rfl)) (by rfl) (by walk_at "o"))
    (@a02 _ _ _ _ _ (@a45 _ _ 4 _ _ _ _ sc_PackMachine_step.nd rfl (by walk_at "o") (@a40 _ _ _ _ _ _ _ _ _ _ _ _ _ _ _ _ G_place_of (hr.mono (by omega)) rfl T.m_place_of T.F_place_of.kp T.b_place_of .nil a55 (@a00 _ _ _ _ _ (a99 K (pv 0) rfl) (@a00 _ _ _ _ _ (pv 2) (@a01 _) (by rfl)) (by rfl)) (by decide) (by rfl) (by rfl)) (by rfl) (by walk_at "o"))
    (@a02 _ _ _ _ _ (@ac2 _ _ _ _ _ _ _ _ PassesOwn.never rfl (a69 K (@a40 _ _ _ _ _ _ _ _ _ _ _ _ _ _ _ _ G_others_in (hr.mono (by omega)) rfl T.m_others_in T.F_others_in.kp T.b_others_in .nil a55 (@a00 _ _ _ _ _ (pv 3) (@a01 _) (by rfl)) (by decide) (by rfl) (by rfl))) (ae7 K (n:=3) rfl (a71 (a47 (i:=5) sc_PackMachine_step.nd rfl (by walk_at "o")) (a71 (a47 (i:=6) sc_PackMachine_step.nd rfl (by walk_at "o")) (a71 (a47 (i:=7) sc_PackMachine_step.nd rfl (by walk_at "o")) (@ae5 _))))) (@a06 _ _ _ (@ad7 _ _ _ _ _ _ _ _ (@a62 _ _ _ _ _ _ _ _ at9 (pv 5) (pv 4) (nomark _)) (@a06 _ _ _ (@a54 _ _ _ _ (@a66 _ _ _ _ _ (@a00 _ _ _ _ _ (af3 (pv 0) T.cl_PackMachine T.M_PackMachine_said_by G_PackMachine_said_by (hr.mono (by omega)) T.b_PackMachine_said_by .nil a55 (@a00 _ _ _ _ _ (pv 6) (@a01 _) (by rfl))) (@a00 _ _ _ _ _ (pv 7) (@a01 _) (by rfl)) (by rfl))))) (@a84 _))) (by intro _; rfl))
    (@a06 _ _ _ (@a54 _ _ _ _ (@a66 _ _ _ _ _ (@a00 _ _ _ _ _ (af3 (pv 0) T.cl_PackMachine T.M_PackMachine_said_by G_PackMachine_said_by (hr.mono (by omega)) T.b_PackMachine_said_by .nil a55 (@a00 _ _ _ _ _ (@a44 _ _ _ _ _ _ _ (a42 K) (pv 3) (@a03 _ _ _ _) (fun _ _=>rfl)) (@a01 _) (by rfl))) (@a00 _ _ _ _ _ (@a44 _ _ _ _ _ _ _ (a42 K) (pv 3) (@a03 _ _ _ _) (fun _ _=>rfl)) (@a01 _) (by rfl)) (by rfl)))))))),?_⟩
   obtain ⟨dx,h1,h2,h3,h4,h5,h6⟩:=hM.ex
   obtain ⟨o1,o2,o3,o4,o5⟩:=ok.sh h (gI hh)
   have hh2:(k.shs.map shL)[tl / 2]?=some (shL h):=by rw [gM,hh]; rfl
   obtain ⟨x1,x2⟩:=at2 k.c1 hh2
   walk_at "go"
   refine ⟨p,_,dx,_,_,rfl,h1,T.cl_PackMachine,T.n_PackMachine_cells,aj8 _ _ _ _ _,?_⟩
   walk_at "r"
   refine ⟨p,_,dx,_,_,rfl,h1,T.cl_PackMachine,T.n_PackMachine_shapes,bj1 _ _ _ _ _,?_⟩
   walk_at "r"
   refine ⟨p,_,dx,_,_,rfl,h1,T.cl_PackMachine,T.n_PackMachine_cells,aj8 _ _ _ _ _,?_⟩
   walk_at "r"
   rw [show (4:Int)+(n:Nat)=((4+n:Nat):Int) by omega]
   refine a93 (SqL.of h4) (a04 (af9 (k.at4 hn))) ?_
   walk_at "r"
   rw [show ((tl:Nat):Int) / 2=((tl / 2:Nat):Int) by omega]
   refine a93 (SqL.of h5) (a04 (af9 (bi5 (Nat.le_of_lt (gS hh2).1)))) ?_
   walk_at "r"
   refine ⟨c,k.cells,shL h,_,rfl,h4,x1,x2,fun ps H1 f1 s1 e1=>?_⟩
   walk_at "r"
   refine ⟨p,_,dx,_,_,rfl,s1 _ _ h1,T.cl_PackMachine,T.n_PackMachine_places,bj0 _ _ _ _ _,?_⟩
   walk_at "r"
   refine ⟨d,v,es,e,rfl,a64 h2 s1,hv.same s1,fun y hy=>?_⟩
   rw [hj] at hy
   cases hy
   walk_at "r"
   refine ⟨ps,h,rfl,e1,by omega,fun po acc H2 f2 s2 e2 ho=>?_⟩
   have al:acc.length=h.2.length:=by rw [ho.len,gL]
   refine ⟨po,rfl,⟨_,SqL.of e2⟩,ac9 (K:=K) (a:=po) (xs:=acc) (fun i σ H'=>H'=H2∧(∀ x∈h.2.take i,¬ x.1=j)∧∃ y1 y2 y3,σ=[some (.ref p),some (.int (n:Nat)),some v,some (.ref ps),some (.int (j:Nat)),y1,y2,y3]) ⟨rfl,by simp,_,_,_,rfl⟩ (fun i σ H' _ ⟨e,_⟩=>e ▸ SqL.of e2) ?_ ?_⟩
   · rintro i x σ H' hx ⟨rfl,hno,y1,y2,y3,rfl⟩
     obtain ⟨tt,ff,ht1,ht2,_⟩:=ho.get i x hx
     rw [gM] at ht1
     obtain ⟨t3,ht3,rfl⟩:=gO ht1
     obtain ⟨kk,rfl,hkk,_⟩:=trip_w.mp ht2
     refine am3 (SqT.of hkk) rfl ?_
     walk_at "r"
     have s02:=s1.trans s2
     refine ite2 (fun hc=>?_) (fun hc=>?_)
     · have hc':t3.1=j:=by have:=of_decide_eq_true hc; omega
       have hp:=bj3 ht3 hc' hno
       rw [hp] at hl q
       walk_at "r"
       refine ⟨p,dx,_,rfl,s02 _ _ h1,b97 _ _ _ _ _ (by decide +kernel) (by decide +kernel) (by decide +kernel) (by decide +kernel) (by decide +kernel),?_⟩
       walk_at "r"
       refine ⟨p,d,tx,c,sh,sy,es,txs,k,t3.2.1,l,rfl,hM.same s02,ok,hl,fun pl H3 f3 s3 e3=>?_⟩
       walk_at "r"
       intro p4 H4 f4 s4 e4
       exact q p4 pl H4 (s02.free f3) (s02.trans (s3.trans s4)) e4 (s4 _ _ e3)
     · have hc':¬ t3.1=j:=fun z=>hc (decide_eq_true (by omega))
       walk_at "r"
       refine ⟨rfl,fun x hx=>?_,_,_,_,rfl⟩
       rw [List.take_add_one,ht3] at hx
       rcases gA hx with hx | hx
       · exact hno x hx
       · simp at hx
         rw [hx]
         exact hc'
   · rintro σ H' ⟨rfl,hno,y1,y2,y3,rfl⟩
     rw [al,List.take_length] at hno
     have hp:=bj4 hno
     rw [hp] at hl q
     have s02:=s1.trans s2
     walk_at "r"
     refine ⟨p,dx,_,rfl,s02 _ _ h1,b97 _ _ _ _ _ (by decide +kernel) (by decide +kernel) (by decide +kernel) (by decide +kernel) (by decide +kernel),?_⟩
     walk_at "r"
     refine a93 (SqL.of (s2 _ _ e1)) (v:=.int (h.1.1:Nat)) (a04 (j:=0) rfl) ?_
     walk_at "r"
     refine ⟨p,d,tx,c,sh,sy,es,txs,k,h.1.1,l,rfl,hM.same s02,ok,hl,fun pl H3 f3 s3 e3=>?_⟩
     walk_at "r"
     refine a93 (SqL.of (s3 _ _ (s2 _ _ e1))) (v:=.int (h.1.2:Nat)) (a04 (j:=1) rfl) ?_
     walk_at "r"
     intro p4 H4 f4 s4 e4
     exact q p4 pl H4 (s02.free f3) (s02.trans (s3.trans s4)) e4 (s4 _ _ e3)
def met1 {α:Type} [DecidableEq α] (acc:List α) (x:α):List α:=if x∈acc then acc else acc++[x]
def mets {α:Type} [DecidableEq α] (l:List α):List α:=l.foldl met1 []
theorem aw7 {α:Type} [DecidableEq α] (l:List α) (x:α):mets (l++[x])=met1 (mets l) x:=by
 unfold mets
 rw [List.foldl_append]
 rfl
theorem br6 {α:Type} [DecidableEq α] {acc:List α}{x y:α}:x∈met1 acc y↔x∈acc∨x=y:=by
 unfold met1
 split
 · next h =>
   constructor
   · exact .inl
   · rintro (h' | rfl)
     · exact h'
     · exact h
 · simp
theorem b60 {α:Type} [DecidableEq α] (x:α):∀ (l acc:List α),x∈l.foldl met1 acc↔x∈acc∨x∈l
 | [],acc=>by simp
 | y::l,acc=>by
   rw [List.foldl_cons,b60 x l,br6,List.mem_cons,or_assoc]
theorem at3 {α:Type} [DecidableEq α] (x:α) (l:List α):x∈mets l↔x∈l:=by
 unfold mets
 rw [b60]
 simp
theorem c02 {α:Type} [DecidableEq α] {acc:List α}{y:α}(ha:acc.Nodup):(met1 acc y).Nodup:=by
 unfold met1
 split
 · exact ha
 · next h =>
   refine List.nodup_append.mpr ⟨ha,by simp,fun a hm b hb z=>?_⟩
   rw [gG hb] at z
   exact h (z ▸ hm)
theorem bj5 {α:Type} [DecidableEq α]:∀ (l acc:List α),acc.Nodup→(l.foldl met1 acc).Nodup
 | [],acc,h=>h
 | y::l,acc,h=>bj5 l _ (c02 h)
theorem b08 {α:Type} [DecidableEq α] (l:List α):(mets l).Nodup:=bj5 l [] (by simp)
theorem b61 {α:Type} [DecidableEq α]:∀ (l acc:List α),(l.foldl met1 acc).length≤acc.length+l.length
 | [],acc=>by simp
 | y::l,acc=>by
   have h:=b61 l (met1 acc y)
   have h2:(met1 acc y).length≤acc.length+1:=by
    unfold met1
    split <;> simp
   rw [List.foldl_cons,List.length_cons]
   omega
theorem b62 {α:Type} [DecidableEq α] (l:List α):(mets l).length≤l.length:=by
 have:=b61 l []
 simpa [mets] using this
def numF {α:Type}(f:α→Tr):List α→Nat→List (Tr×V)
 | [],_=>[]
 | x::l,n=>(f x,.int (n:Nat))::numF f l (n+1)
def numd {α:Type}(f:α→Tr) (l:List α):List (Tr×V):=numF f l 0
theorem ag1 {α:Type}(f:α→Tr):∀ (l:List α) (n:Nat),(numF f l n).length=l.length
 | [],_=>rfl
 | _::l,n=>by simp [numF,ag1 f l]
theorem aj9 {α:Type}(f:α→Tr):∀ (l:List α) (n:Nat),(numF f l n).map (·.1)=l.map f
 | [],_=>rfl
 | _::l,n=>by simp [numF,aj9 f l]
theorem aw8 {α:Type}(f:α→Tr) (x:α):∀ (l:List α) (n:Nat),numF f (l++[x]) n=numF f l n++[(f x,.int ((n+l.length:Nat):Int))]
 | [],n=>rfl
 | y::l,n=>by
   show (f y,V.int (n:Nat))::numF f (l++[x]) (n+1)=_
   rw [aw8 f x l (n+1),show n+1+l.length=n+(y::l).length by simp; omega]
   rfl
theorem b63 {α:Type}{f:α→Tr}(hf:∀ a b,f a=f b→a=b):∀ (l:List α) (n:Nat),l.Nodup→∀ (x:α) (i:Nat),l[i]?=some x→valV (numF f l n) (f x)=some (.int ((n+i:Nat):Int))
 | [],n,_,x,i,h=>by simp at h
 | y::l,n,hn,x,i,h=>by
   rw [List.nodup_cons] at hn
   unfold valV numF
   rw [List.find?_cons]
   cases i with
   | zero =>
     have e:y=x:=by simpa using h
     subst e
     simp
   | succ i =>
     have h':l[i]?=some x:=by simpa using h
     have hne:f y≠f x:=fun z=>hn.1 (by rw [hf _ _ z]; exact gI h')
     rw [decide_eq_false hne]
     have:=b63 hf l (n+1) hn.2 x i h'
     unfold valV at this
     rw [this,show n+1+i=n+(i+1) by omega]
theorem aw9 {α:Type}{f:α→Tr}(hf:∀ a b,f a=f b→a=b) {x:α}:∀ (l:List α) (n:Nat),x∉l→valV (numF f l n) (f x)=none
 | [],n,_=>rfl
 | y::l,n,h=>by
   rw [List.mem_cons,not_or] at h
   unfold valV numF
   rw [List.find?_cons,decide_eq_false (fun z:f y=f x=>h.1 (hf _ _ z).symm)]
   have:=aw9 hf l (n+1) h.2
   unfold valV at this
   exact this
theorem br7 {α:Type}{f:α→Tr}(hf:∀ a b,f a=f b→a=b) {l:List α}(hn:l.Nodup) {x:α}{i:Nat}(h:l[i]?=some x):valV (numd f l) (f x)=some (.int (i:Nat)):=by
 have:=b63 hf l 0 hn x i h
 rw [Nat.zero_add] at this
 exact this
theorem ao5 {α:Type}{f:α→Tr}(hf:∀ a b,f a=f b→a=b) {l:List α}(hn:l.Nodup) {x:α}(h:x∈l):∃ i:Nat,l[i]?=some x∧valV (numd f l) (f x)=some (.int (i:Nat)):=by
 obtain ⟨i,hi,rfl⟩:=List.mem_iff_getElem.mp h
 exact ⟨i,gE hi,br7 hf hn (gE hi)⟩
def b98 (K:W.Frag) (P:Params):Sp:=fun vs H Q _=>∃ (a:Addr) (us:List V) (α:Type) (_:DecidableEq α) (f:α→Tr) (xs:List α),vs=[.ref a]∧SqL K H a us∧Tr.Ats H (xs.map f) us []∧(∀ a b,f a=f b→a=b)∧(∀ x,(f x).h≤8)∧xs.length≤100000∧∀ d H',H d=none→Same H H'→DtAt P H' d (numd f (mets xs))→Q (.ref d) H'
theorem b99 (T:Txt K mg t):FnOk P w K mg base CX0 1 t.a_counted t.fd_counted ["things"] (b98 K w.params):=by
 refine T.F_counted.ok sc_counted (fun vs H Q E h=>?_) (fun cdv A outer s H vs Q E hr h=>?_)
 · obtain ⟨a,us,α,dα,f,xs,rfl,_⟩:=h
   rfl
 · obtain ⟨a,us,α,dα,f,xs,rfl,ha,hu,hf,hh,hl,q⟩:=h
   refine ⟨_,(@a02 _ _ _ _ _ (@a45 _ _ 1 _ _ _ _ sc_counted.nd rfl (by walk_at "o") (az3 w.params) (by rfl) (by walk_at "o"))
    (@a02 _ _ _ _ _ (@ac2 _ _ _ _ _ _ _ _ PassesOwn.never rfl (a69 K (pv 0)) (a47 (i:=2) sc_counted.nd rfl (by walk_at "o")) (@a06 _ _ _ (@ab3 _ _ _ _ (bo8 (P:=w.params) rfl (by exact hr.units) (pv 1) (pv 2) (@a59 _ _ _ _ _ _ _ _ _ (az6 (P:=w.params) rfl) (by rfl) T.z_len ab9 (@a00 _ _ _ _ _ (pv 1) (@a01 _) (by rfl)) (by decide) (by decide) (by rfl) (by rfl)) ⟨by rfl,by rfl,by rfl,by rfl⟩) (by rfl))) (by intro _; rfl))
    (@a06 _ _ _ (@a54 _ _ _ _ (pv 1))))),?_⟩
   have sl:(1000000:Nat)≤sizeLine:=le_line (Nat.le_refl _)
   have ul:us.length=xs.length:=by rw [hu.len,gL]
   walk_at "go"
   intro d o fd hd
   walk_at "r"
   have s1:Same H (upd H d o):=Same.new fd
   refine ⟨⟨_,s1.seq ha⟩,ac9 (K:=K) (a:=a) (xs:=us) (fun i σ H'=>i≤xs.length∧Same H H'∧DtAt w.params H' d (numd f (mets (xs.take i)))∧∃ y,σ=[some (.ref a),some (.ref d),y]) ⟨Nat.zero_le _,s1,hd,_,rfl⟩ (fun i σ H' _ ⟨_,s',_⟩=>s'.seq ha) ?_ ?_⟩
   · rintro i v σ H2 hv ⟨hi,s2,hD,y,rfl⟩
     obtain ⟨tx,hx1,hx2⟩:=aa0 hu hv
     rw [gM] at hx1
     obtain ⟨x,hx,rfl⟩:=gO hx1
     have hi':i<xs.length:=(gS hx).1
     have htk:xs.take (i+1)=xs.take i++[x]:=by rw [List.take_add_one,hx]; rfl
     have hln:=b62 (xs.take i)
     have hlt:(xs.take i).length≤100000:=by simp; omega
     walk_at "r"
     refine ⟨d,_,rfl,hD,?_⟩
     walk_at "r"
     refine ⟨d,_,rfl,hD,?_⟩
     walk_at "r"
     refine ⟨_,f x,hD,⟨ae1 hx2 s2.tups,hh x⟩,by unfold numd; rw [ag1]; omega,fun z hz=>?_,fun hz o' hD'=>?_⟩
     · have hm:x∈mets (xs.take i):=Classical.byContradiction fun hm=>by
        have:=aw9 hf (mets (xs.take i)) 0 hm
        unfold numd at hz
        rw [this] at hz
        cases hz
       rw [htk,aw7,met1,if_pos hm]
       exact ⟨hi',s2,hD,_,rfl⟩
     · have hm:x∉mets (xs.take i):=fun hm=>by
        obtain ⟨j,_,hj⟩:=ao5 hf (b08 _) hm
        rw [hj] at hz
        cases hz
       rw [htk,aw7,met1,if_neg hm]
       refine ⟨hi',s2.updNew fd,?_,_,rfl⟩
       unfold numd at hD' ⊢
       rw [aw8,Nat.zero_add]
       rw [ag1] at hD'
       exact hD'
   · rintro σ H2 ⟨_,s2,hD,y,rfl⟩
     rw [ul,List.take_length] at hD
     walk_at "r"
     exact q d H2 fd s2 hD
def pairT (p:Nat×Nat):Tr:=.tup [.int (p.1:Nat),.int (p.2:Nat)]
theorem pairT_inj {a b:Nat×Nat}(h:pairT a=pairT b):a=b:=by
 simp only [pairT,Tr.tup.injEq,List.cons.injEq,Tr.int.injEq,and_true] at h
 exact Prod.ext (by omega) (by omega)
theorem ae3 (p:Nat×Nat):(pairT p).h≤1:=by simp [pairT,Tr.h,Tr.hs]
theorem al1 {H:Hp}{p:Nat×Nat}{v:V}(h:(pairT p).At H v []):∃ a,v=.ref a∧H a=some (.tup [.int (p.1:Nat),.int (p.2:Nat)]):=by
 obtain ⟨a,vs,rfl,e,h2⟩:=at_tup0.mp h
 obtain ⟨u,w1,rfl,a1,h3⟩:=ats_cons0.mp h2
 obtain ⟨u2,w2,rfl,a2,h4⟩:=ats_cons0.mp h3
 cases at_int0.mp a1
 cases at_int0.mp a2
 cases ats_nil0.mp h4
 exact ⟨a,rfl,e⟩
def encC (x:(Nat×Nat)×Nat):Tr×V:=(pairT x.1,.int (x.2:Nat))
theorem c03 (cs:List ((Nat×Nat)×Nat)) (p:Nat×Nat) (n:Nat):∃ cs':List ((Nat×Nat)×Nat),putK (cs.map encC) (pairT p) (.int (n:Nat))=cs'.map encC∧0<cs'.length∧cs'.length≤cs.length+1∧(∀ x∈cs',x.1=p∨∃ y∈cs,x.1=y.1)∧∀ x∈cs',x.2=n∨∃ y∈cs,x.2=y.2:=by
 unfold putK
 split
 · next h =>
   refine ⟨cs.map fun x=>if pairT x.1=pairT p then (x.1,n) else x,?_,?_,by simp,fun x hx=>?_,fun x hx=>?_⟩
   · rw [List.map_map,List.map_map]
     refine List.map_congr_left fun x _=>?_
     by_cases hx:pairT x.1=pairT p
     · show _=encC (if _ then _ else _)
       have e1:(if pairT x.1=pairT p then (x.1,n) else x)=(x.1,n):=if_pos hx
       exact (if_pos hx).trans (congrArg encC e1.symm)
     · have e1:(if pairT x.1=pairT p then (x.1,n) else x)=x:=if_neg hx
       exact (if_neg hx).trans (congrArg encC e1.symm)
   · cases cs with
     | nil=>simp at h
     | cons c cs=>simp
   · obtain ⟨y,hy,rfl⟩:=List.mem_map.mp hx
     refine .inr ⟨y,hy,?_⟩
     split <;> rfl
   · obtain ⟨y,hy,rfl⟩:=List.mem_map.mp hx
     by_cases hz:pairT y.1=pairT p
     · rw [if_pos hz]; exact .inl rfl
     · rw [if_neg hz]; exact .inr ⟨y,hy,rfl⟩
 · refine ⟨cs++[(p,n)],by simp [encC],by simp,by simp,fun x hx=>?_,fun x hx=>?_⟩
   · rcases gA hx with h | h
     · exact .inr ⟨x,h,rfl⟩
     · rw [gG h]; exact .inl rfl
   · rcases gA hx with h | h
     · exact .inr ⟨x,h,rfl⟩
     · rw [gG h]; exact .inl rfl
theorem c04 (cs:List ((Nat×Nat)×Nat)) (t:Tr):∃ n:Nat,(valV (cs.map encC) t).getD (.int 0)=.int (n:Nat)∧(∀ b:Nat,(∀ x∈cs,x.2≤b)→n≤b):=by
 unfold valV
 cases h:(cs.map encC).find? (fun kv=>decide (kv.1=t)) with
 | none=>exact ⟨0,rfl,fun b _=>Nat.zero_le _⟩
 | some y =>
   obtain ⟨x,hx,rfl⟩:=List.mem_map.mp (List.mem_of_find?_eq_some h)
   exact ⟨x.2,rfl,fun b hb=>hb x hx⟩
def br8 (K:W.Frag):Sp:=fun vs H Q _=>∃ (c:Addr) (l:List Nat),vs=[.ref c]∧H c=some (.lst (natsV l))∧l.length≤100000∧∀ p H',H p=none→Same H H'→H' p=some (.lst (natsV (l.length::l)))→Q (.ref p) H'
theorem br9 (T:Txt K mg t):FnOk P w K mg base CX0 1 t.a_block t.fd_block ["cells"] (br8 K):=by
 refine T.F_block.ok br0 (fun vs H Q E h=>?_) (fun cdv A outer s H vs Q E hr h=>?_)
 · obtain ⟨c,l,rfl,_⟩:=h
   rfl
 · obtain ⟨c,l,rfl,hc,hl,q⟩:=h
   refine ⟨_,(@a06 _ _ _ (@a54 _ _ _ _ (@a89 _ _ _ _ _ _ _ _ a86 (@a48 _ _ _ _ (@a00 _ _ _ _ _ (@a59 _ _ _ _ _ _ _ _ _ (aa6 K) (by rfl) T.z_len ab9 (@a00 _ _ _ _ _ (pv 0) (@a01 _) (by rfl)) (by decide) (by decide) (by rfl) (by rfl)) (@a01 _) (by rfl))) (pv 0)))),?_⟩
   have sl:(1000000:Nat)≤sizeLine:=le_line (Nat.le_refl _)
   walk_at "go"
   refine ad3 (SqL.of hc) ?_
   walk_at "r"
   intro p1 H1 f1 s1 e1
   walk_at "r"
   refine ai5 e1 (s1 _ _ hc) (by rw [a56]; simp; omega) ?_
   intro p2 H2 f2 s2 e2
   rw [a56] at e2
   exact q p2 H2 (s1.free f2) (s1.trans s2) e2
def bj6 (K:W.Frag):Sp:=fun vs H Q _=>∃ (a:Addr) (us:List V) (row:List (Nat×Nat)),vs=[.ref a]∧H a=some (.tup us)∧Tr.Ats H (row.map pairT) us []∧0<row.length∧row.length≤1000∧∀ v c H',Same H H'→c∈row→(pairT c).At H' v []→Q v H'
theorem ao9 (T:Txt K mg t):FnOk P w K mg base CX0 1 t.a_common_pair t.fd_common_pair ["shape"] (bj6 K):=by
 refine T.F_common_pair.ok sc_common_pair (fun vs H Q E h=>?_) (fun cdv A outer s H vs Q E hr h=>?_)
 · obtain ⟨a,us,row,rfl,_⟩:=h
   rfl
 · obtain ⟨a,us,row,rfl,ha,hu,h0,hl,q⟩:=h
   refine ⟨_,(@a02 _ _ _ _ _ (@a45 _ _ 1 _ _ _ _ sc_common_pair.nd rfl (by walk_at "o") (az3 w.params) (by rfl) (by walk_at "o"))
    (@a02 _ _ _ _ _ (@ac2 _ _ _ _ _ _ _ _ PassesOwn.never rfl (be0 K (pv 0)) (a47 (i:=2) sc_common_pair.nd rfl (by walk_at "o")) (@a06 _ _ _ (as3 (P:=w.params) rfl (by exact hr.units) (pv 1) (pv 2) (@a89 _ _ _ _ _ _ _ _ a86 (b54 (P:=w.params) rfl (by exact hr.units) (pv 1) (pv 2) (@a03 _ _ _ _) ⟨by rfl,by rfl,by rfl,by rfl⟩) (@a03 _ _ _ _)) rfl)) (by intro _; rfl))
    (@a02 _ _ _ _ _ (@a45 _ _ 3 _ _ _ _ sc_common_pair.nd rfl (by walk_at "o") (@a59 _ _ _ _ _ _ _ _ _ (bz3 (P:=w.params) rfl rfl) (by rfl) T.z_max c84 (@a00 _ _ _ _ _ (bp9 (P:=w.params) rfl (pv 1)) (@a01 _) (by rfl)) (by decide) (by decide) (by rfl) (by rfl)) (by rfl) (by walk_at "o"))
    (@a06 _ _ _ (@a54 _ _ _ _ (@a44 _ _ _ _ _ _ _ (a42 K) (ak4 (Nt:=["pair"]) (Nf:=["counts","most"]) (caps:=[1,3]) rfl (ab4 (sc:=defScope a75) rfl rfl (by decide +kernel) (by decide +kernel) (by decide +kernel) rfl (by decide +kernel)) (bp7 (P:=w.params) rfl (pv 1)) (fun _ _ _ _ _=>(a47 (i:=0) (show (["pair","counts","most"]:List Str).Nodup by decide +kernel) rfl (by walk_at "o"))) (fun _ _ _ _ _=>(@bw6 _ _ _ (@a62 _ _ _ _ _ _ _ _ at9 (ak5 (P:=w.params) rfl (by exact hr.units) (pv 1) (pv 0) (fun _ _=>rfl)) (pv 2) (nomark _)))) (fun _ _ _ _ _=>(pv 0))) (@a03 _ _ _ _) (fun _ _=>rfl))))))),?_⟩
   have sl:(1000000:Nat)≤sizeLine:=le_line (Nat.le_refl _)
   have ul:us.length=row.length:=by rw [hu.len,gL]
   walk_at "go"
   intro d o fd hd
   walk_at "r"
   have s1:Same H (upd H d o):=Same.new fd
   refine ⟨⟨_,SqT.of (s1 _ _ ha)⟩,bv3 (K:=K) (a:=a) (xs:=us) (fun i σ H'=>i≤row.length∧Same H H'∧(∃ cs:List ((Nat×Nat)×Nat),DtAt w.params H' d (cs.map encC)∧cs.length≤i∧(0<i→0<cs.length)∧(∀ x∈cs,x.1∈row∧x.2≤i))∧∃ y,σ=[some (.ref a),some (.ref d),y,none]) ⟨Nat.zero_le _,s1,⟨[],hd,Nat.zero_le _,fun z=>absurd z (by omega),by simp⟩,_,rfl⟩ (fun i σ H' _ ⟨_,s',_⟩=>SqT.of (s' _ _ ha)) ?_ ?_⟩
   · rintro i v σ H2 hv ⟨hi,s2,⟨cs,hD,hcl,_,hcs⟩,y,rfl⟩
     obtain ⟨tx,hx1,hx2⟩:=aa0 hu hv
     rw [gM] at hx1
     obtain ⟨p,hp,rfl⟩:=gO hx1
     have hi':i<row.length:=(gS hp).1
     have hpm:=gI hp
     have tk:TK H2 (pairT p) v:=⟨ae1 hx2 s2.tups,by have:=ae3 p; omega⟩
     walk_at "r"
     refine ⟨d,_,rfl,hD,?_⟩
     walk_at "r"
     obtain ⟨n,hn,hb⟩:=c04 cs (pairT p)
     refine ⟨_,pairT p,hD,tk,?_⟩
     rw [hn]
     have hni:n≤i:=hb i fun x hx=>(hcs x hx).2
     walk_at "r"
     refine ⟨d,_,pairT p,rfl,hD,tk,by rw [gL]; omega,fun o' hD'=>?_⟩
     rw [show ((n:Nat):Int)+1=((n+1:Nat):Int) by omega] at hD'
     obtain ⟨cs',e1,e2,e3,e4,e5⟩:=c03 cs p (n+1)
     rw [e1] at hD'
     have hb2:∀ x∈cs',x.1∈row:=fun x hx=>by
      rcases e4 x hx with h | ⟨y,hy,h⟩
      · rw [h]; exact hpm
      · rw [h]; exact (hcs y hy).1
     refine ⟨hi',s2.updNew fd,⟨cs',hD',by omega,fun _=>e2,fun x hx=>⟨hb2 x hx,?_⟩⟩,_,rfl⟩
     rcases e5 x hx with h | ⟨y,hy,h⟩
     · omega
     · have:=(hcs y hy).2
       omega
   · rintro σ H2 ⟨_,s2,⟨cs,hD,hcl,hc0,hcs⟩,y,rfl⟩
     have hc0':0<cs.length:=hc0 (by omega)
     walk_at "r"
     refine ⟨d,_,rfl,hD,fun pv H3 f3 s3 e3=>?_⟩
     walk_at "r"
     refine ⟨pv,d,_,cs.map fun x=>((x.2:Nat):Int),rfl,e3,a64 hD s3,by simp [encC],by simpa using hc0',fun b hb hmx=>?_⟩
     walk_at "r"
     refine ⟨d,_,rfl,a64 hD s3,fun m o H4 hm hk fz=>?_⟩
     have s4:Same H H4:=fun x ob e=>hk x ob (a05 e fd) (s3 _ _ (s2 _ _ e))
     have hml:m.length=cs.length:=by simpa using congrArg List.length hm
     have hmem:∀ x∈m,∃ y∈cs,x.1=pairT y.1∧x.2.2=.int (y.2:Nat):=fun x hx=>by
      have:(x.1,x.2.2)∈cs.map encC:=by rw [← hm]; exact List.mem_map_of_mem (f:=fun x:Tr×V×V=>(x.1,x.2.2)) hx
      obtain ⟨y,hy,e⟩:=List.mem_map.mp this
      exact ⟨y,hy,(congrArg Prod.fst e).symm,(congrArg Prod.snd e).symm⟩
     refine ch9 (by omega) (fun i acc H'=>H'=H4∧acc.length≤i∧(∀ v∈acc,∃ c∈row,(pairT c).At H4 v [])∧∀ (j:Nat) x,j<i→m[j]?=some x→x.2.2=.int b→0<acc.length) ⟨rfl,Nat.zero_le _,by simp,fun j x h=>absurd h (by omega)⟩ (fun i acc H' ⟨e,h,_⟩=>⟨h,by rw [e]; exact fz.e⟩) ?_ ?_
     · rintro i x acc H' hx ⟨rfl,h1,h2,h3⟩
       have hxm:=gI hx
       obtain ⟨y,hy,e1,e2⟩:=hmem x hxm
       walk_at "r"
       refine ⟨d,_,x.1,_,rfl,fz.dt,fz.k x hxm,as1 fz.n hx,?_⟩
       rw [e2]
       walk_at "r"
       refine ite2 (fun hc=>?_) (fun hc=>?_)
       · walk_at "r"
         refine ⟨rfl,by simp; omega,fun v hv=>?_,fun j x' _ _ _=>by simp⟩
         rcases gA hv with hv | hv
         · exact h2 v hv
         · rw [gG hv]
           exact ⟨y.1,(hcs y hy).1,e1 ▸ (fz.k x hxm).1⟩
       · refine ⟨rfl,by omega,h2,fun j x' hj hx' e=>?_⟩
         by_cases hji:j=i
         · subst hji
           rw [hx] at hx'
           cases hx'
           rw [e2] at e
           injection e with e
           exact absurd (decide_eq_true e) (by simpa using hc)
         · exact h3 j x' (by omega) hx' e
     · rintro acc H' ⟨rfl,h1,h2,h3⟩
       have hpos:0<acc.length:=by
        obtain ⟨y,hy,e⟩:=List.mem_map.mp hb
        obtain ⟨j,hj,rfl⟩:=List.mem_iff_getElem.mp hy
        have hjm:j<m.length:=by omega
        refine h3 j m[j] hjm (gE hjm) ?_
        have:=congrArg (fun l=>l[j]?) hm
        simp only [gM,gE hj,gE hjm,Option.map_some,encC,Option.some.injEq,Prod.mk.injEq] at this
        rw [this.2,e]
       intro p5 H5 f5 s5 e5
       walk_at "r"
       obtain ⟨c,hc,hat⟩:=h2 acc[0] (List.getElem_mem _)
       refine a93 (SqL.of e5) (v:=acc[0]) (a04 (j:=0) (gE hpos)) ?_
       exact q _ c H5 (s4.trans s5) hc (hat.same s5)
def excF (c:Nat×Nat):List (Nat×Nat)→Nat→List Tri
 | [],_=>[]
 | p::ps,n=>(if p=c then [] else [(n,p)])++excF c ps (n+1)
theorem ax0 (c p:Nat×Nat):∀ (row:List (Nat×Nat)) (n:Nat),excF c (row++[p]) n=excF c row n++(if p=c then [] else [(n+row.length,p)])
 | [],n=>by simp [excF]
 | x::row,n=>by
   show (if x=c then [] else [(n,x)])++excF c (row++[p]) (n+1)=((if x=c then [] else [(n,x)])++excF c row (n+1))++_
   rw [ax0 c p row (n+1),List.append_assoc,show n+1+row.length=n+(x::row).length by simp; omega]
theorem al9 (c:Nat×Nat):∀ (row:List (Nat×Nat)) (n:Nat) (t:Tri),t∈excF c row n→n≤t.1∧t.2∈row
 | [],n,t,h=>by simp [excF] at h
 | x::row,n,t,h=>by
   rcases gA h with h | h
   · split at h
     · simp at h
     · rw [gG h]; simp
   · obtain ⟨h1,h2⟩:=al9 c row (n+1) t h
     exact ⟨by omega,List.mem_cons_of_mem _ h2⟩
theorem ak0 (c:Nat×Nat):∀ (row:List (Nat×Nat)) (n:Nat),(excF c row n).length≤row.length
 | [],n=>by simp [excF]
 | x::row,n=>by
   have:=ak0 c row (n+1)
   show ((if x=c then [] else [(n,x)])++excF c row (n+1)).length≤_
   rw [List.length_append,List.length_cons]
   split
   · simp; omega
   · simp; omega
theorem bj7 (c:Nat×Nat):∀ (row:List (Nat×Nat)) (n:Nat),((excF c row n).map (·.1)).Nodup
 | [],n=>by simp [excF]
 | x::row,n=>by
   have ih:=bj7 c row (n+1)
   show (((if x=c then [] else [(n,x)])++excF c row (n+1)).map (·.1)).Nodup
   split
   · exact ih
   · rw [List.singleton_append,List.map_cons,List.nodup_cons]
     refine ⟨fun hm=>?_,ih⟩
     obtain ⟨t,ht,e⟩:=List.mem_map.mp hm
     have:=(al9 c row (n+1) t ht).1
     simp only at e
     omega
theorem ax1 (c:Nat×Nat):∀ (row:List (Nat×Nat)) (n j:Nat) (p:Nat×Nat),row[j]?=some p→(match (excF c row n).find? (fun t=>t.1 == n+j) with | some t=>t.2 | none=>c)=p
 | [],n,j,p,h=>by simp at h
 | x::row,n,0,p,h=>by
   obtain rfl:x=p:=by simpa using h
   show (match ((if x=c then [] else [(n,x)])++excF c row (n+1)).find? (fun t=>t.1 == n+0) with | some t=>t.2 | none=>c)=x
   split
   · next hx =>
     by_cases hc:x=c
     · rw [if_pos hc] at hx
       exfalso
       have hm:=List.mem_of_find?_eq_some hx
       have h1:=List.find?_some hx
       have h2:=(al9 c row (n+1) _ hm).1
       simp at h1
       omega
     · rw [if_neg hc,List.singleton_append,List.find?_cons] at hx
       simp at hx
       rw [← hx]
   · next hx =>
     by_cases hc:x=c
     · exact hc.symm
     · rw [if_neg hc,List.singleton_append,List.find?_cons] at hx
       simp at hx
 | x::row,n,j+1,p,h=>by
   have ih:=ax1 c row (n+1) j p (by simpa using h)
   rw [show n+1+j=n+(j+1) by omega] at ih
   show (match ((if x=c then [] else [(n,x)])++excF c row (n+1)).find? (fun t=>t.1 == n+(j+1)) with | some t=>t.2 | none=>c)=p
   have e:((if x=c then [] else [(n,x)])++excF c row (n+1)).find? (fun t=>t.1 == n+(j+1))=(excF c row (n+1)).find? (fun t=>t.1 == n+(j+1)):=by
    by_cases hc:x=c
    · rw [if_pos hc,List.nil_append]
    · rw [if_neg hc,List.singleton_append,List.find?_cons,show (n == n+(j+1))=false by simp]
   rw [e]
   exact ih
theorem bs0 {c p:Nat×Nat}{row:List (Nat×Nat)}{j:Nat}(h:row[j]?=some p):pick (c,excF c row 0) j=p:=by
 have:=ax1 c row 0 j p h
 rw [Nat.zero_add] at this
 unfold pick
 exact this
theorem ba0 (ts:List Tri) (t:Tri):al0 (ts++[t])=al0 ts++[t.1,t.2.1,t.2.2]:=by simp [al0]
def bs1 (K:W.Frag):Sp:=fun vs H Q _=>∃ (a:Addr) (us:List V) (row:List (Nat×Nat)),vs=[.ref a]∧H a=some (.tup us)∧Tr.Ats H (row.map pairT) us []∧0<row.length∧row.length≤1000∧∀ p c H',H p=none→Same H H'→c∈row→H' p=some (.lst (natsV (shL (c,excF c row 0))))→Q (.ref p) H'
theorem ap0 (T:Txt K mg t):FnOk P w K mg base CX0 2 t.a_shape_cells t.fd_shape_cells ["shape"] (bs1 K):=by
 have G_common_pair:=ao9 (P:=P) (w:=w) (base:=base) T
 refine T.F_shape_cells.ok sc_shape_cells (fun vs H Q E h=>?_) (fun cdv A outer s H vs Q E hr h=>?_)
 · obtain ⟨a,us,row,rfl,_⟩:=h
   rfl
 · obtain ⟨a,us,row,rfl,ha,hu,h0,hl,q⟩:=h
   refine ⟨_,(@a02 _ _ _ _ _ (@a45 _ _ 1 _ _ _ _ sc_shape_cells.nd rfl (by walk_at "o") (@a40 _ _ _ _ _ _ _ _ _ _ _ _ _ _ _ _ G_common_pair (hr.mono (by omega)) rfl T.m_common_pair T.F_common_pair.kp T.b_common_pair .nil a55 (@a00 _ _ _ _ _ (pv 0) (@a01 _) (by rfl)) (by decide) (by rfl) (by rfl)) (by rfl) (by walk_at "o"))
    (@a02 _ _ _ _ _ (@a45 _ _ 2 _ _ _ _ sc_shape_cells.nd rfl (by walk_at "o") (@a48 _ _ _ _ (@a00 _ _ _ _ _ (@a44 _ _ _ _ _ _ _ (a08 K) (pv 1) (@a03 _ _ _ _) (fun _ _=>rfl)) (@a00 _ _ _ _ _ (@a44 _ _ _ _ _ _ _ (a08 K) (pv 1) (@a03 _ _ _ _) (fun _ _=>rfl)) (@a01 _) (by rfl)) (by rfl))) (by rfl) (by walk_at "o"))
    (@a02 _ _ _ _ _ (@ac2 _ _ _ _ _ _ _ _ PassesOwn.never rfl (bq0 K rfl T.z_enumerate (@a00 _ _ _ _ _ (pv 0) (@a01 _) (by rfl))) (ae7 K (n:=2) rfl (a71 (a47 (i:=3) sc_shape_cells.nd rfl (by walk_at "o")) (a71 (a47 (i:=4) sc_shape_cells.nd rfl (by walk_at "o")) (@ae5 _)))) (@a06 _ _ _ (@ad7 _ _ _ _ _ _ _ _ (@a62 _ _ _ _ _ _ _ _ (bp6 K (by exact hr.units)) (pv 4) (pv 1) (nomark _)) (@a06 _ _ _ (@ab3 _ _ _ _ (@af2 _ K _ _ _ _ _ _ _ _ _ _ _ PySem.F.plainAttrs_list PySem.F.slot_list_extend PySem.F.type_list_extend aj0 (pv 2) (@a00 _ _ _ _ _ (@a48 _ _ _ _ (@a00 _ _ _ _ _ (pv 3) (@a00 _ _ _ _ _ (@a44 _ _ _ _ _ _ _ (a08 K) (pv 4) (@a03 _ _ _ _) (fun _ _=>rfl)) (@a00 _ _ _ _ _ (@a44 _ _ _ _ _ _ _ (a08 K) (pv 4) (@a03 _ _ _ _) (fun _ _=>rfl)) (@a01 _) (by rfl)) (by rfl)) (by rfl))) (@a01 _) (by rfl)) (by rfl) (by rfl) (by rfl) (by rfl) (by rfl) (by rfl)) (by rfl))) (@a84 _))) (by intro _; rfl))
    (@a06 _ _ _ (@a54 _ _ _ _ (pv 2)))))),?_⟩
   have sl:(1000000:Nat)≤sizeLine:=le_line (Nat.le_refl _)
   have ul:us.length=row.length:=by rw [hu.len,gL]
   walk_at "go"
   refine ⟨a,us,row,rfl,ha,hu,h0,hl,fun v c H1 s1 hc hv=>?_⟩
   obtain ⟨ca,rfl,hca⟩:=al1 hv
   walk_at "r"
   refine a65 (SqT.of hca) (a04 (j:=0) rfl) ?_
   walk_at "r"
   refine a65 (SqT.of hca) (a04 (j:=1) rfl) ?_
   walk_at "r"
   intro pl H2 f2 s2 e2
   walk_at "r"
   have s02:=s1.trans s2
   refine ⟨⟨_,SqT.of (s02 _ _ ha)⟩,bg8 (K:=K) (a:=a) (xs:=us) (fun i σ H'=>i≤row.length∧Same H1 H'∧H' pl=some (.lst (natsV (shL (c,excF c (row.take i) 0))))∧∃ y z,σ=[some (.ref a),some (.ref ca),some (.ref pl),y,z]) ⟨Nat.zero_le _,s2,by rw [e2]; rfl,_,_,rfl⟩ (fun i σ H' _ ⟨_,s',_⟩=>SqT.of ((s1.trans s') _ _ ha)) ?_ ?_⟩
   · rintro i v σ H3 p3 H4 hv' ⟨hi,s3,e3,y,z,rfl⟩ s4 e4
     obtain ⟨tx,hx1,hx2⟩:=aa0 (hu.same (s1.trans (s3.trans s4))) hv'
     rw [gM] at hx1
     obtain ⟨p,hp,rfl⟩:=gO hx1
     have hi':i<row.length:=(gS hp).1
     have htk:row.take (i+1)=row.take i++[p]:=by rw [List.take_add_one,hp]; rfl
     obtain ⟨va,rfl,hva⟩:=al1 hx2
     have s14:=s3.trans s4
     have hle:=ak0 c (row.take i) 0
     have hlt:(row.take i).length=i:=by simp; omega
     refine am3 (SqT.of e4) rfl ?_
     walk_at "r"
     refine cc6 (ts:=[.int (p.1:Nat),.int (p.2:Nat)]) (rs:=[.int (c.1:Nat),.int (c.2:Nat)]) (hx2.toK K) ((hv.same s14).toK K) (by have:=ae3 p; unfold pairT at this; omega) (by have:=ae3 c; unfold pairT at this; omega) ?_
     walk_at "r"
     rw [htk,ax0,hlt,Nat.zero_add]
     have hlf:=ah4 (excF c (row.take i) 0)
     refine ite2 (fun hne=>?_) (fun hne=>?_)
     · have hpc:¬ p=c:=fun z=>by subst z; simp at hne
       rw [if_neg hpc]
       walk_at "r"
       refine aj4 (SqL.of (s4 _ _ e3)) ?_
       walk_at "r"
       refine a65 (SqT.of hva) (a04 (j:=0) rfl) ?_
       walk_at "r"
       refine a65 (SqT.of hva) (a04 (j:=1) rfl) ?_
       walk_at "r"
       intro p5 H5 f5 s5 e5
       walk_at "r"
       refine al8 ((s4.trans s5) _ _ e3) e5 (by rw [a56]; simp only [shL,List.length_cons,List.length_nil]; omega) ?_
       refine ⟨hi',(s14.trans s5).updNew f2,?_,_,_,rfl⟩
       rw [a41,show shL (c,excF c (row.take i) 0++[(i,p)])=shL (c,excF c (row.take i) 0)++[i,p.1,p.2] by simp [shL,ba0]]
       simp [natsV]
     · have hpc:p=c:=Classical.byContradiction fun z=>hne (by
        have:¬ pairT p=pairT c:=fun h=>z (pairT_inj h)
        unfold pairT at this
        rw [decide_eq_false this]; rfl)
       rw [if_pos hpc,List.append_nil]
       walk_at "r"
       exact ⟨hi',s14,s4 _ _ e3,_,_,rfl⟩
   · rintro σ H3 ⟨_,s3,e3,y,z,rfl⟩
     rw [ul,List.take_length] at e3
     walk_at "r"
     exact q pl c H3 (s1.free f2) (s1.trans s3) hc e3
abbrev Row:=List Str×Nat
abbrev a60:=Bool×List Row
def rowW (r:Row):Tw:=.tup [.lst (r.1.map strW),.sc (.int (r.2:Nat))]
def roomW (r:a60):Tw:=.tup [.sc (.bl r.1),.lst (r.2.map rowW)]
theorem row_w {H:Hp}{r:Row}{v:V}{fs:List Addr}:(rowW r).At H v fs↔∃ k sl,v=.ref k∧H k=some (.tup [.ref sl,.int (r.2:Nat)])∧H sl=some (.lst (strsV r.1))∧fs=[sl]:=by
 simp only [rowW,Tw.At,Tw.Ats]
 constructor
 · rintro ⟨a,vs,rfl,e,v,ws,f,g,rfl,rfl,⟨sl,us,gs,rfl,e2,h,rfl⟩,v',ws',f',g',rfl,rfl,⟨rfl,_,rfl⟩,rfl,rfl⟩
   obtain ⟨rfl,rfl⟩:=strs_w.mp h
   exact ⟨a,sl,rfl,e,e2,rfl⟩
 · rintro ⟨k,sl,rfl,e,e2,rfl⟩
   exact ⟨k,_,rfl,e,_,_,[sl],[],rfl,rfl,⟨sl,_,[],rfl,e2,strs_w.mpr ⟨rfl,rfl⟩,rfl⟩,_,_,[],[],rfl,rfl,⟨rfl,True.intro,rfl⟩,rfl,rfl⟩
theorem room_w {H:Hp}{r:a60}{v:V}{fs:List Addr}:(roomW r).At H v fs↔∃ q g ps gs,v=.ref q∧H q=some (.tup [.bl r.1,.ref g])∧H g=some (.lst ps)∧Tw.Ats H (r.2.map rowW) ps gs∧fs=g::gs:=by
 simp only [roomW,Tw.At,Tw.Ats]
 constructor
 · rintro ⟨a,vs,rfl,e,v,ws,f,g,rfl,rfl,⟨rfl,_,rfl⟩,v',ws',f',g',rfl,rfl,⟨sl,us,gs,rfl,e2,h,rfl⟩,rfl,rfl⟩
   exact ⟨a,sl,us,gs,rfl,e,e2,h,by simp⟩
 · rintro ⟨q,g,ps,gs,rfl,e,e2,h,rfl⟩
   exact ⟨q,_,rfl,e,_,_,[],g::gs,rfl,rfl,⟨rfl,True.intro,rfl⟩,_,_,g::gs,[],rfl,by simp,⟨g,ps,gs,rfl,e2,h,rfl⟩,rfl,rfl⟩
structure TabAt (H:Hp) (v:V) (a b c:Addr) (es:List Ev) (sy:List Str) (rs:List a60) (gs:List Addr):Prop where
 ex:∃ t us rvs,v=.ref t∧H t=some (.tup [.ref a,.ref b,.ref c])∧H a=some (.lst us)∧Tr.Ats H (es.map Ev.tr) us []∧H b=some (.lst (strsV sy))∧H c=some (.lst rvs)∧Tw.Ats H (rs.map roomW) rvs gs
theorem TabAt.same {H H':Hp}{v:V}{a b c:Addr}{es:List Ev}{sy:List Str}{rs:List a60}{gs:List Addr}(h:TabAt H v a b c es sy rs gs) (s:Same H H'):TabAt H' v a b c es sy rs gs:=by
 obtain ⟨t,us,rvs,h1,h2,h3,h4,h5,h6,h7⟩:=h.ex
 exact ⟨t,us,rvs,h1,s _ _ h2,s _ _ h3,h4.same s,s _ _ h5,s _ _ h6,h7.same s⟩
structure TabOk (es:List Ev) (sy:List Str) (rs:List a60):Prop where
 ne:es.length≤20
 ns:sy.length≤20
 nr:rs.length≤100
 ok:∀ r∈rs,r.2.length=es.length∧∀ x∈r.2,x.2<rs.length∧x.1.length≤20
theorem b09 {H:Hp}:∀ ss:List Str,Tr.Ats H (ss.map Tr.str) (strsV ss) []
 | []=>by simp [strsV,Tr.Ats]
 | s::ss=>ats_cons0.mpr ⟨_,_,rfl,ag8,b09 ss⟩
theorem bu7:∀ ss:List Str,Tr.hs (ss.map Tr.str)≤1
 | []=>by simp [Tr.hs]
 | s::ss=>by
   have:=bu7 ss
   simp only [List.map_cons,Tr.hs,Tr.h]
   omega
def sT (s:List Str):Tr:=.tup (s.map Tr.str)
theorem ax2:∀ {a b:List Str},a.map Tr.str=b.map Tr.str→a=b
 | [],[],_=>rfl
 | [],_::_,h=>by simp at h
 | _::_,[],h=>by simp at h
 | x::a,y::b,h=>by
   simp only [List.map_cons,List.cons.injEq,Tr.str.injEq] at h
   rw [h.1,ax2 h.2]
theorem bj8 {a b:List Str}(h:sT a=sT b):a=b:=by
 unfold sT at h
 injection h with h
 exact ax2 h
theorem sT_h (s:List Str):(sT s).h≤8:=by
 have:=bu7 s
 simp only [sT,Tr.h]
 omega
theorem bs2 {H:Hp}{a:Addr}{s:List Str}(h:H a=some (.tup (strsV s))):(sT s).At H (.ref a) []:=at_tup0.mpr ⟨a,_,rfl,h,b09 s⟩
theorem strs_of {H:Hp}:∀ {ss:List Str}{us:List V},Tr.Ats H (ss.map Tr.str) us []→us=strsV ss
 | [],us,h=>ats_nil0.mp h
 | s::ss,us,h=>by
   obtain ⟨u,w1,rfl,a1,h2⟩:=ats_cons0.mp h
   cases at_str0.mp a1
   rw [strs_of h2]
   rfl
theorem ce1 {H:Hp}{v:V}{s:List Str}(h:(sT s).At H v []):∃ a,v=.ref a∧H a=some (.tup (strsV s)):=by
 obtain ⟨a,vs,rfl,e,h2⟩:=at_tup0.mp h
 rw [strs_of h2] at e
 exact ⟨a,rfl,e⟩
def sayL (sy:List Str) (rs:List a60):List (List Str):=sy::rs.flatMap fun r=>r.2.map (·.1)
theorem aq7 {α β:Type}{f:α→List β}{n:Nat}:∀ {l:List α},(∀ x∈l,(f x).length≤n)→(l.flatMap f).length≤l.length*n
 | [],_=>by simp
 | x::l,h=>by
   have h1:=h x (by simp)
   have h2:=aq7 (f:=f) (n:=n) (l:=l) fun y hy=>h y (by simp [hy])
   rw [List.flatMap_cons,List.length_append,List.length_cons,Nat.add_mul]
   omega
def ba1 (K:W.Frag):Sp:=fun vs H Q _=>∃ (v:V) (a b c:Addr) (es:List Ev) (sy:List Str) (rs:List a60) (gs:List Addr),vs=[v]∧TabAt H v a b c es sy rs gs∧TabOk es sy rs∧∀ p us H',H p=none→Same H H'→H' p=some (.lst us)→Tr.Ats H' ((sayL sy rs).map sT) us []→Q (.ref p) H'
theorem at5 (T:Txt K mg t):FnOk P w K mg base CX0 1 t.a_sayings_of t.fd_sayings_of ["table"] (ba1 K):=by
 refine T.F_sayings_of.ok sc_sayings_of (fun vs H Q E h=>?_) (fun cdv A outer s H vs Q E hr h=>?_)
 · obtain ⟨v,a,b,c,es,sy,rs,gs,rfl,_⟩:=h
   rfl
 · obtain ⟨v,a,b,c,es,sy,rs,gs,rfl,hT,ok,q⟩:=h
   refine ⟨_,(@a02 _ _ _ _ _ (@a45 _ _ 1 _ _ _ _ sc_sayings_of.nd rfl (by walk_at "o") (@a48 _ _ _ _ (@a00 _ _ _ _ _ (@a63 _ _ _ _ _ _ _ _ _ (af1 K) (by rfl) T.z_tuple ai1 (@a00 _ _ _ _ _ (@a44 _ _ _ _ _ _ _ (a08 K) (pv 0) (@a03 _ _ _ _) (fun _ _=>rfl)) (@a01 _) (by rfl)) (by decide) (by decide) (by rfl) (by rfl)) (@a01 _) (by rfl))) (by rfl) (by walk_at "o"))
    (@a02 _ _ _ _ _ (@ac2 _ _ _ _ _ _ _ _ PassesOwn.never rfl (a69 K (@a44 _ _ _ _ _ _ _ (a08 K) (pv 0) (@a03 _ _ _ _) (fun _ _=>rfl))) (a47 (i:=2) sc_sayings_of.nd rfl (by walk_at "o")) (@a06 _ _ _ (@ab3 _ _ _ _ (@af2 _ K _ _ _ _ _ _ _ _ _ _ _ PySem.F.plainAttrs_list PySem.F.slot_list_extend PySem.F.type_list_extend aj0 (pv 1) (@a00 _ _ _ _ _ (ak4 (Nt:=["said","way"]) (Nf:=[]) (caps:=[]) rfl (ab4 (sc:=defScope a83) rfl rfl (by decide +kernel) (by decide +kernel) (by decide +kernel) rfl (by decide +kernel)) (a69 K (@a44 _ _ _ _ _ _ _ (a08 K) (pv 2) (@a03 _ _ _ _) (fun _ _=>rfl))) (fun _ _ _ _ _=>(ae7 K (n:=2) rfl (a71 (a47 (i:=0) (show (["said","way"]:List Str).Nodup by decide +kernel) rfl (by walk_at "o")) (a71 (a47 (i:=1) (show (["said","way"]:List Str).Nodup by decide +kernel) rfl (by walk_at "o")) (@ae5 _))))) (fun _ _ _ _ _=>(@ab5 _)) (fun _ _ _ _ _=>(@a63 _ _ _ _ _ _ _ _ _ (af1 K) (by rfl) T.z_tuple ai1 (@a00 _ _ _ _ _ (pv 0) (@a01 _) (by rfl)) (by decide) (by decide) (by rfl) (by rfl)))) (@a01 _) (by rfl)) (by rfl) (by rfl) (by rfl) (by rfl) (by rfl) (by rfl)) (by rfl))) (by intro _; rfl))
    (@a06 _ _ _ (@a54 _ _ _ _ (pv 1))))),?_⟩
   have sl:(1000000:Nat)≤sizeLine:=le_line (Nat.le_refl _)
   obtain ⟨tt,us,rvs,rfl,h1,h2,h3,h4,h5,h6⟩:=hT.ex
   have rl:rvs.length=rs.length:=by rw [h6.len,gL]
   walk_at "go"
   refine a65 (SqT.of h1) (a04 (j:=1) rfl) ?_
   walk_at "r"
   refine ai2 (SqL.of h4) ?_
   intro p1 H1 f1 s1 e1
   walk_at "r"
   intro pf H2 f2 s2 e2
   walk_at "r"
   have s02:=s1.trans s2
   refine a65 (SqT.of (s02 _ _ h1)) (a04 (j:=2) rfl) ?_
   have frl:∀ i,((rs.take i).flatMap fun r=>r.2.map (·.1)).length≤2000:=fun i=>by
    have h:=aq7 (f:=fun r:a60=>r.2.map (·.1)) (n:=20) (l:=rs.take i) fun r hr=>by
     have:=(ok.ok r (List.mem_of_mem_take hr)).1
     have:=ok.ne
     simp
     omega
    have:=ok.nr
    have hle:(rs.take i).length≤100:=by simp; omega
    have:=Nat.mul_le_mul_right 20 hle
    omega
   refine ⟨c,rfl,⟨_,SqL.of (s02 _ _ h5)⟩,ac9 (K:=K) (a:=c) (xs:=rvs) (fun i σ H'=>i≤rs.length∧Same H1 H'∧(∃ ws,H' pf=some (.lst ws)∧Tr.Ats H' ((sayL sy (rs.take i)).map sT) ws [])∧∃ y,σ=[some (.ref tt),some (.ref pf),y]) ⟨Nat.zero_le _,s2,⟨_,e2,ats_cons0.mpr ⟨_,_,rfl,bs2 (s2 _ _ e1),ats_nil0.mpr rfl⟩⟩,_,rfl⟩ (fun i σ H' _ ⟨_,s',_⟩=>SqL.of ((s1.trans s') _ _ h5)) ?_ ?_⟩
   · rintro i v σ H3 hv ⟨hi,s3,⟨ws,e3,hw⟩,y,rfl⟩
     have s03:=s1.trans s3
     obtain ⟨tx,fx,hx1,hx2,_⟩:=(h6.same s03).get i v hv
     rw [gM] at hx1
     obtain ⟨r,hr,rfl⟩:=gO hx1
     obtain ⟨q1,g,ps,gs1,rfl,k1,k2,k3,rfl⟩:=room_w.mp hx2
     have hi':i<rs.length:=(gS hr).1
     have htk:rs.take (i+1)=rs.take i++[r]:=by rw [List.take_add_one,hr]; rfl
     have pl:ps.length=r.2.length:=by rw [k3.len,gL]
     have hwl:ws.length≤2001:=by
      have:=frl i
      rw [hw.len,gL]
      simp only [sayL,List.length_cons]
      omega
     have hrl:r.2.length≤20:=by rw [(ok.ok r (gI hr)).1]; exact ok.ne
     walk_at "r"
     refine aj4 (SqL.of e3) ?_
     walk_at "r"
     refine a65 (SqT.of k1) (a04 (j:=1) rfl) ?_
     refine ⟨g,rfl,⟨_,SqL.of k2⟩,ar9 (xs:=ps) (by omega) (fun i acc H'=>i≤r.2.length∧acc.length=i∧Same H3 H'∧Tr.Ats H' (((r.2.take i).map (·.1)).map sT) acc []) ⟨Nat.zero_le _,rfl,Same.refl _,ats_nil0.mpr rfl⟩ (fun i acc H' ⟨_,e,s',_⟩=>⟨by omega,SqL.of (s' _ _ k2)⟩) ?_ ?_⟩
     · rintro j x acc H4 hx ⟨hj,ea,s4,hat⟩
       obtain ⟨tx2,fx2,hy1,hy2,_⟩:=(k3.same s4).get j x hx
       rw [gM] at hy1
       obtain ⟨w0,hw0,rfl⟩:=gO hy1
       obtain ⟨k,sl',rfl,hk,hsl',rfl⟩:=row_w.mp hy2
       refine ⟨k,_,_,rfl,SqT.of hk,?_⟩
       walk_at "r"
       refine ai2 (SqL.of hsl') ?_
       intro p5 H5 f5 s5 e5
       refine ⟨(gS hw0).1,by simp [ea],s4.trans s5,?_⟩
       rw [List.take_add_one,hw0,show r.2.take j++(some w0).toList=r.2.take j++[w0] from rfl,List.map_append,List.map_append]
       exact ats_app0.mpr ⟨_,_,rfl,hat.same s5,ats_cons0.mpr ⟨_,_,rfl,bs2 e5,ats_nil0.mpr rfl⟩⟩
     · rintro acc H4 ⟨_,ea,s4,hat⟩ p5 H5 f5 s5 e5
       rw [pl,List.take_length] at hat
       have s35:=s4.trans s5
       walk_at "r"
       refine al8 (s35 _ _ e3) e5 (by omega) ?_
       refine ⟨hi',(s3.trans s35).updNew f2,⟨_,a41,?_⟩,_,rfl⟩
       rw [htk,show sayL sy (rs.take i++[r])=sayL sy (rs.take i)++r.2.map (·.1) by simp [sayL],List.map_append]
       exact ats_app0.mpr ⟨_,_,rfl,ad4 (hw.same s35) (Tups.upd (s35 _ _ e3)),ad4 (hat.same s5) (Tups.upd (s35 _ _ e3))⟩
   · rintro σ H3 ⟨_,s3,⟨ws,e3,hw⟩,y,rfl⟩
     rw [rl,List.take_length] at hw
     walk_at "r"
     exact q pf ws H3 (s1.free f2) (s1.trans s3) e3 hw
def PairsOf (l:List (List Str)) (r:a60) (row:List (Nat×Nat)):Prop:=row.length=r.2.length∧∀ (j:Nat) (x:Row),r.2[j]?=some x→∃ n,row[j]?=some (n,x.2)∧l[n]?=some x.1
def rT (r:List (Nat×Nat)):Tr:=.tup (r.map pairT)
def bs3 (K:W.Frag) (P:Params):Sp:=fun vs H Q _=>∃ (v:V) (d:Addr) (r:a60) (fs:List Addr) (l:List (List Str)),vs=[v,.ref d]∧(roomW r).At H v fs∧DtAt P H d (numd sT l)∧l.Nodup∧r.2.length≤100∧(∀ x∈r.2,x.1∈l)∧∀ v' row H',Same H H'→(rT row).At H' v' []→PairsOf l r row→Q v' H'
theorem b40 (T:Txt K mg t):FnOk P w K mg base CX0 1 t.a_pairs_of t.fd_pairs_of ["room","sayings"] (bs3 K w.params):=by
 refine T.F_pairs_of.ok b01 (fun vs H Q E h=>?_) (fun cdv A outer s H vs Q E hr h=>?_)
 · obtain ⟨v,d,r,fs,l,rfl,_⟩:=h
   rfl
 · obtain ⟨v,d,r,fs,l,rfl,hv,hD,nd,hl,hin,q⟩:=h
   refine ⟨_,(@a06 _ _ _ (@a54 _ _ _ _ (@a63 _ _ _ _ _ _ _ _ _ (af1 K) (by rfl) T.z_tuple ai1 (@a00 _ _ _ _ _ (ak4 (Nt:=["said","way"]) (Nf:=["sayings"]) (caps:=[1]) rfl (ab4 (sc:=defScope aa2) rfl rfl (by decide +kernel) (by decide +kernel) (by decide +kernel) rfl (by decide +kernel)) (a69 K (@a44 _ _ _ _ _ _ _ (a08 K) (pv 0) (@a03 _ _ _ _) (fun _ _=>rfl))) (fun _ _ _ _ _=>(ae7 K (n:=2) rfl (a71 (a47 (i:=0) (show (["said","way","sayings"]:List Str).Nodup by decide +kernel) rfl (by walk_at "o")) (a71 (a47 (i:=1) (show (["said","way","sayings"]:List Str).Nodup by decide +kernel) rfl (by walk_at "o")) (@ae5 _))))) (fun _ _ _ _ _=>(@ab5 _)) (fun _ _ _ _ _=>(@a66 _ _ _ _ _ (@a00 _ _ _ _ _ (ak5 (P:=w.params) rfl (by exact hr.units) (pv 2) (@a63 _ _ _ _ _ _ _ _ _ (af1 K) (by rfl) T.z_tuple ai1 (@a00 _ _ _ _ _ (pv 0) (@a01 _) (by rfl)) (by decide) (by decide) (by rfl) (by rfl)) (fun _ _=>rfl)) (@a00 _ _ _ _ _ (pv 1) (@a01 _) (by rfl)) (by rfl))))) (@a01 _) (by rfl)) (by decide) (by decide) (by rfl) (by rfl)))),?_⟩
   have sl:(1000000:Nat)≤sizeLine:=le_line (Nat.le_refl _)
   obtain ⟨q1,g,ps,gs1,rfl,k1,k2,k3,rfl⟩:=room_w.mp hv
   have pl:ps.length=r.2.length:=by rw [k3.len,gL]
   walk_at "go"
   refine a65 (SqT.of k1) (a04 (j:=1) rfl) ?_
   walk_at "r"
   refine ⟨⟨_,SqL.of k2⟩,ar9 (xs:=ps) (by omega) (fun i acc H'=>i≤r.2.length∧acc.length=i∧Same H H'∧∃ row,Tr.Ats H' (row.map pairT) acc []∧row.length=i∧∀ (j:Nat) (x:Row),j<i→r.2[j]?=some x→∃ n,row[j]?=some (n,x.2)∧l[n]?=some x.1) ⟨Nat.zero_le _,rfl,Same.refl _,[],ats_nil0.mpr rfl,rfl,fun j x h=>absurd h (by omega)⟩ (fun i acc H' ⟨_,e,s',_⟩=>⟨by omega,SqL.of (s' _ _ k2)⟩) ?_ ?_⟩
   · rintro j x acc H4 hx ⟨hj,ea,s4,row,hat,hrl,hrow⟩
     obtain ⟨tx2,fx2,hy1,hy2,_⟩:=(k3.same s4).get j x hx
     rw [gM] at hy1
     obtain ⟨w0,hw0,rfl⟩:=gO hy1
     obtain ⟨k,sl',rfl,hk,hsl',rfl⟩:=row_w.mp hy2
     refine ⟨k,_,_,rfl,SqT.of hk,?_⟩
     walk_at "r"
     refine ai2 (SqL.of hsl') ?_
     intro p5 H5 f5 s5 e5
     obtain ⟨n,hn,hval⟩:=ao5 (f:=sT) (fun a b=>bj8) nd (hin w0 (gI hw0))
     refine ⟨d,_,sT w0.1,_,rfl,a64 hD (s4.trans s5),⟨bs2 e5,sT_h _⟩,hval,?_⟩
     walk_at "r"
     intro p6 H6 f6 s6 e6
     refine ⟨(gS hw0).1,by simp [ea],s4.trans (s5.trans s6),row++[(n,w0.2)],?_,by simp [hrl],fun m y hm hy=>?_⟩
     · rw [List.map_append]
       exact ats_app0.mpr ⟨_,_,rfl,hat.same (s5.trans s6),ats_cons0.mpr ⟨_,_,rfl,ay8 e6 am5 am5,ats_nil0.mpr rfl⟩⟩
     · by_cases hmj:m=j
       · subst hmj
         rw [hw0] at hy
         cases hy
         exact ⟨n,by rw [List.getElem?_append_right (by omega),hrl,Nat.sub_self]; rfl,hn⟩
       · obtain ⟨n2,a1,a2⟩:=hrow m y (by omega) hy
         exact ⟨n2,by rw [List.getElem?_append_left (gS a1).1]; exact a1,a2⟩
   · rintro acc H4 ⟨_,ea,s4,row,hat,hrl,hrow⟩ p5 H5 f5 s5 e5
     walk_at "r"
     refine ai2 (SqL.of e5) ?_
     intro p6 H6 f6 s6 e6
     exact q (.ref p6) row H6 (s4.trans (s5.trans s6)) (at_tup0.mpr ⟨p6,_,rfl,e6,hat.same (s5.trans s6)⟩) ⟨by omega,fun j x hx=>hrow j x (by rw [pl]; exact (gS hx).1) hx⟩
theorem bj9 {α:Type} [DecidableEq α]:∀ {a b:List α},a.Nodup→(∀ x∈a,x∈b)→a.length≤b.length
 | [],b,_,_=>by simp
 | x::a,b,hn,h=>by
   rw [List.nodup_cons] at hn
   have hx:=h x (by simp)
   have ih:=bj9 (b:=b.erase x) hn.2 fun y hy=>(List.mem_erase_of_ne (fun z=>hn.1 (by rw [← z]; exact hy))).mpr (h y (by simp [hy]))
   have:=List.length_erase_of_mem hx
   have:=List.length_pos_of_mem hx
   rw [List.length_cons]
   omega
def ba2 (K:W.Frag):Sp:=fun vs H Q _=>∃ (a:Addr) (us:List V) (l:List (List Str)) (W:List Str),vs=[.ref a]∧SqL K H a us∧Tr.Ats H (l.map sT) us []∧l.length≤50∧(∀ s∈l,s.length≤20∧∀ x∈s,x∈W)∧W.length<64∧∀ p out H',H p=none→Same H H'→H' p=some (.lst (strsV out))→out.Nodup→(∀ x,x∈out↔∃ s∈l,x∈s)→out.length<64→Q (.ref p) H'
theorem b41 (T:Txt K mg t):FnOk P w K mg base CX0 1 t.a_texts_in t.fd_texts_in ["sayings"] (ba2 K):=by
 refine T.F_texts_in.ok sc_texts_in (fun vs H Q E h=>?_) (fun cdv A outer s H vs Q E hr h=>?_)
 · obtain ⟨a,us,l,W,rfl,_⟩:=h
   rfl
 · obtain ⟨a,us,l,W,rfl,ha,hu,hl,hW,hWl,q⟩:=h
   refine ⟨_,(@a02 _ _ _ _ _ (@a45 _ _ 1 _ _ _ _ sc_texts_in.nd rfl (by walk_at "o") (@a48 _ _ _ _ (@a01 _)) (by rfl) (by walk_at "o"))
    (@a02 _ _ _ _ _ (@ac2 _ _ _ _ _ _ _ _ PassesOwn.never rfl (a69 K (pv 0)) (a47 (i:=2) sc_texts_in.nd rfl (by walk_at "o")) (@a06 _ _ _ (@ab3 _ _ _ _ (@af2 _ K _ _ _ _ _ _ _ _ _ _ _ PySem.F.plainAttrs_list PySem.F.slot_list_extend PySem.F.type_list_extend (az7 K) (pv 1) (@a00 _ _ _ _ _ (pv 2) (@a01 _) (by rfl)) (by rfl) (by rfl) (by rfl) (by rfl) (by rfl) (by rfl)) (by rfl))) (by intro _; rfl))
    (@a06 _ _ _ (@a54 _ _ _ _ (@a59 _ _ _ _ _ _ _ _ _ (bq8 (P:=P) (w:=w) rfl rfl rfl) (by rfl) T.z_sorted be1 (@a00 _ _ _ _ _ (@a63 _ _ _ _ _ _ _ _ _ (bz6 (P:=P) (w:=w) K rfl rfl rfl) (by rfl) T.z_set c85 (@a00 _ _ _ _ _ (pv 1) (@a01 _) (by rfl)) (by decide) (by decide) (by rfl) (by rfl)) (@a01 _) (by rfl)) (by decide) (by decide) (by rfl) (by rfl)))))),?_⟩
   have sl:(1000000:Nat)≤sizeLine:=le_line (Nat.le_refl _)
   have ul:us.length=l.length:=by rw [hu.len,gL]
   have fll:∀ l':List (List Str),(∀ s∈l',s∈l)→l'.length≤50→(l'.flatMap id).length≤1000:=fun l' hs hl'=>by
    have h1:=aq7 (f:=id) (n:=20) (l:=l') fun s h=>(hW s (hs s h)).1
    have h2:=Nat.mul_le_mul_right 20 hl'
    omega
   walk_at "go"
   intro pf H1 f1 s1 e1
   walk_at "r"
   refine ⟨⟨_,s1.seq ha⟩,ac9 (K:=K) (a:=a) (xs:=us) (fun i σ H'=>i≤l.length∧Same H H'∧H' pf=some (.lst (strsV ((l.take i).flatMap id)))∧∃ y,σ=[some (.ref a),some (.ref pf),y]) ⟨Nat.zero_le _,s1,e1,_,rfl⟩ (fun i σ H' _ ⟨_,s',_⟩=>s'.seq ha) ?_ ?_⟩
   · rintro i v σ H3 hv ⟨hi,s3,e3,y,rfl⟩
     obtain ⟨tx,hx1,hx2⟩:=aa0 (hu.same s3) hv
     rw [gM] at hx1
     obtain ⟨r,hr,rfl⟩:=gO hx1
     obtain ⟨b,rfl,hb⟩:=ce1 hx2
     have hi':i<l.length:=(gS hr).1
     have htk:l.take (i+1)=l.take i++[r]:=by rw [List.take_add_one,hr]; rfl
     have hfl:=fll (l.take i) (fun s hs=>List.mem_of_mem_take hs) (by simp; omega)
     have hrl:=(hW r (gI hr)).1
     walk_at "r"
     refine aj4 (SqL.of e3) ?_
     walk_at "r"
     refine ⟨pf,b,_,_,rfl,rfl,e3,SqT.of hb,by simp only [strsV,gL]; omega,?_⟩
     refine ⟨hi',s3.updNew f1,?_,_,rfl⟩
     rw [a41,htk,List.flatMap_append]
     simp [strsV]
   · rintro σ H3 ⟨_,s3,e3,y,rfl⟩
     rw [ul,List.take_length] at e3
     walk_at "r"
     refine ⟨pf,l.flatMap id,rfl,SqL.of e3,by have:=fll l (fun s hs=>hs) hl; omega,fun p4 H4 ks f4 s4 e4 nd hks=>?_⟩
     walk_at "r"
     have hkm:∀ x,x∈ks↔∃ s∈l,x∈s:=fun x=>by rw [hks x,List.mem_flatMap]; rfl
     have hkl:ks.length≤W.length:=bj9 nd fun x hx=>by
      obtain ⟨s,hs,hxs⟩:=(hkm x).mp hx
      exact (hW s hs).2 x hxs
     refine ⟨p4,ks,rfl,e4,by omega,fun p5 out H5 f5 s5 e5 pm so=>?_⟩
     have:=pm.length_eq
     exact q p5 out H5 (s3.free (s4.free f5)) (s3.trans (s4.trans s5)) e5 (pm.nodup_iff.mpr nd) (fun x=>by rw [pm.mem_iff]; exact hkm x) (by omega)
theorem bu8 {a b:List (Nat×Nat)}(h:rT a=rT b):a=b:=by
 unfold rT at h
 injection h with h
 induction a generalizing b with
 | nil =>
   cases b with
   | nil=>rfl
   | cons y b=>simp at h
 | cons x a ih =>
   cases b with
   | nil=>simp at h
   | cons y b =>
     simp only [List.map_cons,List.cons.injEq] at h
     rw [pairT_inj h.1,ih h.2]
theorem rT_h (r:List (Nat×Nat)):(rT r).h≤8:=by
 have:Tr.hs (r.map pairT)≤1:=by
  induction r with
  | nil=>simp [Tr.hs]
  | cons x r ih =>
    have:=ae3 x
    simp only [List.map_cons,Tr.hs]
    omega
 simp only [rT,Tr.h]
 omega
theorem bk0 {α:Type} [DecidableEq α]:∀ {l:List α},l.Nodup→mets l=l:=by
 have h:∀ (l acc:List α),(acc++l).Nodup→l.foldl met1 acc=acc++l:=by
  intro l
  induction l with
  | nil=>intro acc _; simp
  | cons x l ih =>
    intro acc hn
    have hx:x∉acc:=fun hm=>(List.nodup_append.mp hn).2.2 x hm x (by simp) rfl
    rw [List.foldl_cons,met1,if_neg hx,ih _ (by simpa using hn)]
    simp
 intro l hn
 unfold mets
 rw [h l [] (by simpa using hn)]
 rfl
structure Packs (k:Pk) (txs sy:List Str) (rs:List a60):Prop where
 tl:k.told.length=rs.length
 say:∃ l,k.sys[k.say]?=some l∧txOf txs l=sy
 room:∀ (i:Nat) (r:a60),rs[i]?=some r→∃ t h,k.told[i]?=some t∧decide ((t:Int) % 2=1)=r.1∧k.shs[t / 2]?=some h∧∀ (j:Nat) (x:Row),r.2[j]?=some x→(pick h j).2=x.2∧∃ l,k.sys[(pick h j).1]?=some l∧txOf txs l=x.1
structure PackPost (H H':Hp) (tt a b c:Addr) (us:List V) (txs:List Str) (k:Pk) (es:List Ev) (sy:List Str) (rs:List a60):Prop where
 same:Same H H'
 e:H' tt=some (.tup [.ref a,.ref b,.ref c])
 fa:H a=none
 fb:H b=none
 fc:H c=none
 ab:a≠b
 ac:a≠c
 bc:b≠c
 ea:H' a=some (.lst us)
 hu:Tr.Ats H' (es.map Ev.tr) us []
 eb:H' b=some (.lst (strsV txs))
 ec:H' c=some (.lst (natsV k.cells))
 ok:PkOk k txs.length
 tx:txs.length<64
 is:Packs k txs sy rs
def c05 (K:W.Frag):Sp:=fun vs H Q _=>∃ (v:V) (a b c:Addr) (es:List Ev) (sy:List Str) (rs:List a60) (gs:List Addr) (M:List (List Str)) (W:List Str),vs=[v]∧TabAt H v a b c es sy rs gs∧TabOk es sy rs∧0<es.length∧0<rs.length∧M.length≤50∧W.length<64∧(∀ s∈sayL sy rs,s∈M∧∀ x∈s,x∈W)∧∀ tt a' b' c' us txs k H',PackPost H H' tt a' b' c' us txs k es sy rs→Q (.ref tt) H'
theorem bs4 {es:List Ev}{sy:List Str}{rs:List a60}(ok:TabOk es sy rs):(sayL sy rs).length≤2001:=by
 have h:=aq7 (f:=fun r:a60=>r.2.map (·.1)) (n:=20) (l:=rs) fun r hr=>by
  have:=(ok.ok r hr).1
  have:=ok.ne
  simp
  omega
 have:=Nat.mul_le_mul_right 20 ok.nr
 simp only [sayL,List.length_cons]
 omega
theorem bs5 {es:List Ev}{sy:List Str}{rs:List a60}{L:List (List Str)}{rows:List (List (Nat×Nat))}{told:List Nat}{shs:List Sh}{sys:List (List Nat)}{n0 T:Nat}(ok:TabOk es sy rs) (hr0:0<rs.length) (hnr:rs.length≤100) (htl:told.length=rs.length) (hml:(mets rows).length≤100) (hsl:shs.length=(mets rows).length) (hLl:L.length≤100) (hyl:sys.length=L.length) (hel:es.length≤100)
 (ht:∀ (j:Nat) (r:a60),j<rs.length→rs[j]?=some r→∃ row m,rows[j]?=some row∧(mets rows)[m]?=some row∧told[j]?=some (2*m+if r.1=true then 1 else 0))
 (hrok:∀ row∈mets rows,∃ r∈rs,PairsOf L r row∧row.length=es.length)
 (hsh:∀ (j:Nat) (row:List (Nat×Nat)),j<(mets rows).length→(mets rows)[j]?=some row→∃ c∈row,shs[j]?=some (c,excF c row 0))
 (hsy:∀ l∈sys,l.length≤100∧∀ n∈l,n<T) (hn0:L[n0]?=some sy):PkOk ⟨told,shs,sys,n0⟩ T:=by
 refine ⟨by simp only; omega,by simp only; omega,by simp only; omega,by simp only; omega,fun t htm=>?_,fun h hh=>?_,hsy,?_⟩
 · obtain ⟨j,hj,rfl⟩:=List.mem_iff_getElem.mp htm
   have hj':j<rs.length:=by simp only at hj; omega
   obtain ⟨row,m,a1,a2,a3⟩:=ht j rs[j] hj' (gE hj')
   have hm:=(gS a2).1
   simp only at hj ⊢
   rw [gE hj] at a3
   injection a3 with a3
   rw [a3,hsl]
   split <;> omega
 · obtain ⟨j,hj,rfl⟩:=List.mem_iff_getElem.mp hh
   simp only at hj ⊢
   have hj':j<(mets rows).length:=by omega
   obtain ⟨c,hc,e⟩:=hsh j (mets rows)[j] hj' (gE hj')
   obtain ⟨r,hr,hp,hrl⟩:=hrok (mets rows)[j] (List.getElem_mem _)
   generalize (mets rows)[j]=row at hc e hp hrl
   rw [gE hj] at e
   injection e with e
   rw [e]
   have hpr:∀ p∈row,p.1<sys.length∧p.2<told.length:=fun p hpm=>by
    obtain ⟨i,hi,rfl⟩:=List.mem_iff_getElem.mp hpm
    have hi':i<r.2.length:=by rw [← hp.1]; exact hi
    obtain ⟨n,b1,b2⟩:=hp.2 i r.2[i] (gE hi')
    rw [gE hi] at b1
    injection b1 with b1
    rw [b1]
    have:=(gS b2).1
    have:=((ok.ok r hr).2 r.2[i] (List.getElem_mem _)).1
    simp only
    omega
   have hxl:=ak0 c row 0
   exact ⟨(hpr c hc).1,(hpr c hc).2,fun t ht=>hpr t.2 (al9 c row 0 t ht).2,bj7 c row 0,by simp only; omega⟩
 · have:=(gS hn0).1
   simp only
   omega
theorem bs6 {sy:List Str}{rs:List a60}{L:List (List Str)}{rows:List (List (Nat×Nat))}{told:List Nat}{shs:List Sh}{sys:List (List Nat)}{n0:Nat}{txs:List Str}(htl:told.length=rs.length)
 (ht:∀ (j:Nat) (r:a60),j<rs.length→rs[j]?=some r→∃ row m,rows[j]?=some row∧(mets rows)[m]?=some row∧told[j]?=some (2*m+if r.1=true then 1 else 0))
 (hrow:∀ (j:Nat) (r:a60),j<rs.length→rs[j]?=some r→∃ row,rows[j]?=some row∧PairsOf L r row)
 (hsh:∀ (j:Nat) (row:List (Nat×Nat)),j<(mets rows).length→(mets rows)[j]?=some row→∃ c∈row,shs[j]?=some (c,excF c row 0))
 (hsy:∀ (j:Nat) (s:List Str),j<L.length→L[j]?=some s→∃ l,sys[j]?=some l∧l.length=s.length∧txOf txs l=s∧∀ n∈l,n<txs.length) (hn0:L[n0]?=some sy):Packs ⟨told,shs,sys,n0⟩ txs sy rs:=by
 refine ⟨htl,?_,fun i r hr=>?_⟩
 · obtain ⟨l,a1,_,a2,_⟩:=hsy n0 sy (gS hn0).1 hn0
   exact ⟨l,a1,a2⟩
 · have hi:=(gS hr).1
   obtain ⟨row,m,a1,a2,a3⟩:=ht i r hi hr
   obtain ⟨row',b1,b2⟩:=hrow i r hi hr
   rw [a1] at b1
   cases b1
   obtain ⟨c,hc,e⟩:=hsh m row (gS a2).1 a2
   refine ⟨_,(c,excF c row 0),a3,?_,?_,fun j x hx=>?_⟩
   · cases r.1
     · simp
     · simp
   · rw [show (2*m+if r.1=true then 1 else 0) / 2=m by split <;> omega]
     exact e
   · obtain ⟨n,d1,d2⟩:=b2.2 j x hx
     rw [bs0 d1]
     obtain ⟨l,f1,_,f2,_⟩:=hsy n x.1 (gS d2).1 d2
     exact ⟨rfl,l,f1,f2⟩
theorem c06 (T:Txt K mg t):FnOk P w K mg base CX0 4 t.a_pack t.fd_pack ["table"] (c05 K):=by
 have G_block:=br9 (P:=P) (w:=w) (base:=base) T
 have G_counted:=b99 (P:=P) (w:=w) (base:=base) T
 have G_pairs_of:=b40 (P:=P) (w:=w) (base:=base) T
 have G_sayings_of:=at5 (P:=P) (w:=w) (base:=base) T
 have G_shape_cells:=ap0 (P:=P) (w:=w) (base:=base) T
 have G_texts_in:=b41 (P:=P) (w:=w) (base:=base) T
 refine T.F_pack.ok sc_pack (fun vs H Q E h=>?_) (fun cdv A outer s H vs Q E hr h=>?_)
 · obtain ⟨v,a,b,c,es,sy,rs,gs,M,W,rfl,_⟩:=h
   rfl
 · obtain ⟨v,a,b,c,es,sy,rs,gs,M,W,rfl,hT,ok,he0,hr0,hM,hW,hin,q⟩:=h
   refine ⟨_,(@a02 _ _ _ _ _ (@a45 _ _ 1 _ _ _ _ sc_pack.nd rfl (by walk_at "o") (@a44 _ _ _ _ _ _ _ (a08 K) (pv 0) (@a03 _ _ _ _) (fun _ _=>rfl)) (by rfl) (by walk_at "o"))
    (@a02 _ _ _ _ _ (@a45 _ _ 2 _ _ _ _ sc_pack.nd rfl (by walk_at "o") (@a40 _ _ _ _ _ _ _ _ _ _ _ _ _ _ _ _ G_counted (hr.mono (by omega)) rfl T.m_counted T.F_counted.kp T.b_counted .nil a55 (@a00 _ _ _ _ _ (@a40 _ _ _ _ _ _ _ _ _ _ _ _ _ _ _ _ G_sayings_of (hr.mono (by omega)) rfl T.m_sayings_of T.F_sayings_of.kp T.b_sayings_of .nil a55 (@a00 _ _ _ _ _ (pv 0) (@a01 _) (by rfl)) (by decide) (by rfl) (by rfl)) (@a01 _) (by rfl)) (by decide) (by rfl) (by rfl)) (by rfl) (by walk_at "o"))
    (@a02 _ _ _ _ _ (bw7 (i:=3) (Nt:=["room"]) (Nf:=["sayings"]) (caps:=[2]) rfl (ab4 (sc:=defScope ag7) rfl rfl (by decide +kernel) (by decide +kernel) (by decide +kernel) rfl (by decide +kernel)) (a69 K (pv 1)) (fun _ _ _ _ _=>(a47 (i:=0) (show (["room","sayings"]:List Str).Nodup by decide +kernel) rfl (by walk_at "o"))) (fun _ _ _ _ _=>(@ab5 _)) (fun _ _ _ _ _=>(@a40 _ _ _ _ _ _ _ _ _ _ _ _ _ _ _ _ G_pairs_of (hr.mono (by omega)) rfl T.m_pairs_of T.F_pairs_of.kp T.b_pairs_of .nil a55 (@a00 _ _ _ _ _ (pv 0) (@a00 _ _ _ _ _ (pv 1) (@a01 _) (by rfl)) (by rfl)) (by decide) (by rfl) (by rfl))) sc_pack.nd rfl (by walk_at "o") rfl)
    (@a02 _ _ _ _ _ (@a45 _ _ 4 _ _ _ _ sc_pack.nd rfl (by walk_at "o") (@a40 _ _ _ _ _ _ _ _ _ _ _ _ _ _ _ _ G_counted (hr.mono (by omega)) rfl T.m_counted T.F_counted.kp T.b_counted .nil a55 (@a00 _ _ _ _ _ (pv 3) (@a01 _) (by rfl)) (by decide) (by rfl) (by rfl)) (by rfl) (by walk_at "o"))
    (@a02 _ _ _ _ _ (@a45 _ _ 5 _ _ _ _ sc_pack.nd rfl (by walk_at "o") (@a40 _ _ _ _ _ _ _ _ _ _ _ _ _ _ _ _ G_texts_in (hr.mono (by omega)) rfl T.m_texts_in T.F_texts_in.kp T.b_texts_in .nil a55 (@a00 _ _ _ _ _ (@a63 _ _ _ _ _ _ _ _ _ (bo9 (P:=w.params) rfl rfl) (by rfl) T.z_list ac8 (@a00 _ _ _ _ _ (pv 2) (@a01 _) (by rfl)) (by decide) (by decide) (by rfl) (by rfl)) (@a01 _) (by rfl)) (by decide) (by rfl) (by rfl)) (by rfl) (by walk_at "o"))
    (@a02 _ _ _ _ _ (@a45 _ _ 6 _ _ _ _ sc_pack.nd rfl (by walk_at "o") (@a40 _ _ _ _ _ _ _ _ _ _ _ _ _ _ _ _ G_counted (hr.mono (by omega)) rfl T.m_counted T.F_counted.kp T.b_counted .nil a55 (@a00 _ _ _ _ _ (pv 5) (@a01 _) (by rfl)) (by decide) (by rfl) (by rfl)) (by rfl) (by walk_at "o"))
    (@a02 _ _ _ _ _ (@a45 _ _ 7 _ _ _ _ sc_pack.nd rfl (by walk_at "o") (@a48 _ _ _ _ (@a00 _ _ _ _ _ (@a59 _ _ _ _ _ _ _ _ _ (aa6 K) (by rfl) T.z_len ab9 (@a00 _ _ _ _ _ (pv 1) (@a01 _) (by rfl)) (by decide) (by decide) (by rfl) (by rfl)) (@a00 _ _ _ _ _ (@a59 _ _ _ _ _ _ _ _ _ (az6 (P:=w.params) rfl) (by rfl) T.z_len ab9 (@a00 _ _ _ _ _ (pv 2) (@a01 _) (by rfl)) (by decide) (by decide) (by rfl) (by rfl)) (@a00 _ _ _ _ _ (@a59 _ _ _ _ _ _ _ _ _ (az6 (P:=w.params) rfl) (by rfl) T.z_len ab9 (@a00 _ _ _ _ _ (pv 4) (@a01 _) (by rfl)) (by decide) (by decide) (by rfl) (by rfl)) (@a00 _ _ _ _ _ (ak5 (P:=w.params) rfl (by exact hr.units) (pv 2) (@a63 _ _ _ _ _ _ _ _ _ (af1 K) (by rfl) T.z_tuple ai1 (@a00 _ _ _ _ _ (@a44 _ _ _ _ _ _ _ (a08 K) (pv 0) (@a03 _ _ _ _) (fun _ _=>rfl)) (@a01 _) (by rfl)) (by decide) (by decide) (by rfl) (by rfl)) (fun _ _=>rfl)) (@a01 _) (by rfl)) (by rfl)) (by rfl)) (by rfl))) (by rfl) (by walk_at "o"))
    (@a02 _ _ _ _ _ (@ac2 _ _ _ _ _ _ _ _ PassesOwn.never rfl (bu2 K rfl T.z_zip (@a00 _ _ _ _ _ (pv 1) (@a00 _ _ _ _ _ (pv 3) (@a01 _) (by rfl)) (by rfl))) (ae7 K (n:=2) rfl (a71 (a47 (i:=8) sc_pack.nd rfl (by walk_at "o")) (a71 (a47 (i:=9) sc_pack.nd rfl (by walk_at "o")) (@ae5 _)))) (@a06 _ _ _ (@ab3 _ _ _ _ (@af2 _ K _ _ _ _ _ _ _ _ _ _ _ PySem.F.plainAttrs_list PySem.F.slot_list_append PySem.F.type_list_append ad2 (pv 7) (@a00 _ _ _ _ _ (@a89 _ _ _ _ _ _ _ _ a86 (@a89 _ _ _ _ _ _ _ _ ah9 (@a03 _ _ _ _) (ak5 (P:=w.params) rfl (by exact hr.units) (pv 4) (pv 9) (fun _ _=>rfl))) (@al6 _ _ _ _ _ _ _ _ (bd9 K (@a44 _ _ _ _ _ _ _ (a08 K) (pv 8) (@a03 _ _ _ _) (fun _ _=>rfl)) (fun _=>rfl)) (@a03 _ _ _ _) (@a03 _ _ _ _))) (@a01 _) (by rfl)) (by rfl) (by rfl) (by rfl) (by rfl) (by rfl) (by rfl)) (by rfl))) (by intro _; rfl))
    (@a02 _ _ _ _ _ (@ac2 _ _ _ _ _ _ _ _ PassesOwn.never rfl (bp7 (P:=w.params) rfl (pv 4)) (a47 (i:=10) sc_pack.nd rfl (by walk_at "o")) (@a06 _ _ _ (@ab3 _ _ _ _ (@af2 _ K _ _ _ _ _ _ _ _ _ _ _ PySem.F.plainAttrs_list PySem.F.slot_list_extend PySem.F.type_list_extend aj0 (pv 7) (@a00 _ _ _ _ _ (@a40 _ _ _ _ _ _ _ _ _ _ _ _ _ _ _ _ G_block (hr.mono (by omega)) rfl T.m_block T.F_block.kp T.b_block .nil a55 (@a00 _ _ _ _ _ (@a40 _ _ _ _ _ _ _ _ _ _ _ _ _ _ _ _ G_shape_cells (hr.mono (by omega)) rfl T.m_shape_cells T.F_shape_cells.kp T.b_shape_cells .nil a55 (@a00 _ _ _ _ _ (pv 10) (@a01 _) (by rfl)) (by decide) (by rfl) (by rfl)) (@a01 _) (by rfl)) (by decide) (by rfl) (by rfl)) (@a01 _) (by rfl)) (by rfl) (by rfl) (by rfl) (by rfl) (by rfl) (by rfl)) (by rfl))) (by intro _; rfl))
    (@a02 _ _ _ _ _ (@ac2 _ _ _ _ _ _ _ _ PassesOwn.never rfl (bp7 (P:=w.params) rfl (pv 2)) (a47 (i:=11) sc_pack.nd rfl (by walk_at "o")) (@a06 _ _ _ (@ab3 _ _ _ _ (@af2 _ K _ _ _ _ _ _ _ _ _ _ _ PySem.F.plainAttrs_list PySem.F.slot_list_extend PySem.F.type_list_extend aj0 (pv 7) (@a00 _ _ _ _ _ (@a40 _ _ _ _ _ _ _ _ _ _ _ _ _ _ _ _ G_block (hr.mono (by omega)) rfl T.m_block T.F_block.kp T.b_block .nil a55 (@a00 _ _ _ _ _ (ak4 (Nt:=["text"]) (Nf:=["places"]) (caps:=[6]) rfl (ab4 (sc:=defScope ag7) rfl rfl (by decide +kernel) (by decide +kernel) (by decide +kernel) rfl (by decide +kernel)) (be0 K (pv 11)) (fun _ _ _ _ _=>(a47 (i:=0) (show (["text","places"]:List Str).Nodup by decide +kernel) rfl (by walk_at "o"))) (fun _ _ _ _ _=>(@ab5 _)) (fun _ _ _ _ _=>(ak5 (P:=w.params) rfl (by exact hr.units) (pv 1) (pv 0) (fun _ _=>rfl)))) (@a01 _) (by rfl)) (by decide) (by rfl) (by rfl)) (@a01 _) (by rfl)) (by rfl) (by rfl) (by rfl) (by rfl) (by rfl) (by rfl)) (by rfl))) (by intro _; rfl))
    (@a06 _ _ _ (@a54 _ _ _ _ (@a66 _ _ _ _ _ (@a00 _ _ _ _ _ (@a63 _ _ _ _ _ _ _ _ _ (ad0 K) (by rfl) T.z_list ac8 (@a00 _ _ _ _ _ (@a44 _ _ _ _ _ _ _ (a08 K) (pv 0) (@a03 _ _ _ _) (fun _ _=>rfl)) (@a01 _) (by rfl)) (by decide) (by decide) (by rfl) (by rfl)) (@a00 _ _ _ _ _ (pv 5) (@a00 _ _ _ _ _ (pv 7) (@a01 _) (by rfl)) (by rfl)) (by rfl))))))))))))))),?_⟩
   generalize hTF3:(tFor (iTd _ _) (gName 11) _:TS)=TF3
   revert hTF3
   revert TF3
   refine keepE ?_
   intro TF3 hTF3
   generalize hTF2:(tFor (iTd _ _) (gName 10) _:TS)=TF2
   revert hTF2
   revert TF2
   refine keepE ?_
   intro TF2 hTF2
   generalize hTF1:(tFor (iZip _ _) _ _:TS)=TF1
   revert hTF1
   revert TF1
   refine keepE ?_
   intro TF1 hTF1
   generalize hTC7:(tSeq (tAsg _ (gName 7)) _:TS)=TC7
   revert hTC7
   revert TC7
   refine keepE ?_
   intro TC7 hTC7
   generalize hTC5:(tSeq (tAsg _ (gName 5)) _:TS)=TC5
   revert hTC5
   revert TC5
   refine keepE ?_
   intro TC5 hTC5
   generalize hTC4:(tSeq (tAsg _ (gName 4)) _:TS)=TC4
   revert hTC4
   revert TC4
   refine keepE ?_
   intro TC4 hTC4
   have sl:(1000000:Nat)≤sizeLine:=le_line (Nat.le_refl _)
   obtain ⟨tt,us,rvs,rfl,h1,h2,h3,h4,h5,h6⟩:=hT.ex
   have rl:rvs.length=rs.length:=by rw [h6.len,gL]
   have hnr:=ok.nr
   have hsl:=bs4 ok
   walk_at "go"
   refine a65 (SqT.of h1) (a04 (j:=2) rfl) ?_
   walk_at "r"
   refine ⟨_,a,b,c,es,sy,rs,gs,rfl,hT,ok,fun p1 us1 H1 f1 s1 e1 hs1=>?_⟩
   walk_at "r"
   refine ⟨p1,us1,List Str,inferInstance,sT,sayL sy rs,rfl,SqL.of e1,hs1,fun a b=>bj8,sT_h,by omega,fun d1 H2 f2 s2 hD=>?_⟩
   walk_at "r"
   have s02:=s1.trans s2
   obtain ⟨L,hL⟩:∃ L,L=mets (sayL sy rs):=⟨_,rfl⟩
   have Lnd:L.Nodup:=by rw [hL]; exact b08 _
   have Lm:∀ x,x∈L↔x∈sayL sy rs:=fun x=>by rw [hL]; exact at3 x _
   have Ll:L.length≤50:=Nat.le_trans (bj9 Lnd fun x hx=>(hin x ((Lm x).mp hx)).1) hM
   rw [← hL] at hD
   refine ⟨⟨_,SqL.of (s02 _ _ h5)⟩,ae6 (xs:=rvs) (by omega) (fun i acc H'=>i≤rs.length∧acc.length=i∧Same H2 H'∧∃ rows:List (List (Nat×Nat)),rows.length=i∧Tr.Ats H' (rows.map rT) acc []∧∀ (j:Nat) (r:a60),j<i→rs[j]?=some r→∃ row,rows[j]?=some row∧PairsOf L r row) ⟨Nat.zero_le _,rfl,Same.refl _,[],rfl,ats_nil0.mpr rfl,fun j r h=>absurd h (by omega)⟩ (fun i acc H' ⟨_,e,s',_⟩=>⟨by omega,SqL.of ((s02.trans s') _ _ h5)⟩) ?_ ?_⟩
   · rintro i v acc H3 hv ⟨hi,ea,s3,rows,hrl,hat,hrow⟩
     obtain ⟨tx,fx,hx1,hx2,_⟩:=(h6.same (s02.trans s3)).get i v hv
     rw [gM] at hx1
     obtain ⟨r,hr,rfl⟩:=gO hx1
     have hrm:=gI hr
     have hi':i<rs.length:=(gS hr).1
     have:=ok.ne
     walk_at "r"
     refine ⟨v,d1,r,fx,L,rfl,hx2,a64 hD s3,Lnd,by rw [(ok.ok r hrm).1]; omega,fun x hx=>(Lm _).mpr ?_,fun v' row H4 s4 hr4 hp=>?_⟩
     · exact List.mem_cons_of_mem _ (List.mem_flatMap.mpr ⟨r,hrm,List.mem_map.mpr ⟨x,hx,rfl⟩⟩)
     refine ⟨hi',by simp [ea],s3.trans s4,rows++[row],by simp [hrl],?_,fun j r' hj hr'=>?_⟩
     · rw [List.map_append]
       exact ats_app0.mpr ⟨_,_,rfl,hat.same s4,ats_cons0.mpr ⟨_,_,rfl,hr4,ats_nil0.mpr rfl⟩⟩
     · by_cases hji:j=i
       · subst hji
         rw [hr] at hr'
         cases hr'
         exact ⟨row,by rw [List.getElem?_append_right (by omega),hrl,Nat.sub_self]; rfl,hp⟩
       · obtain ⟨row',a1,a2⟩:=hrow j r' (by omega) hr'
         exact ⟨row',by rw [List.getElem?_append_left (gS a1).1]; exact a1,a2⟩
   rintro acc H3 ⟨_,ea,s3,rows,hrl,hat,hrow⟩ pr H4 f4 s4 e4
   rw [rl] at ea hrl hrow
   walk_at "r"
   subst hTC4
   walk_at "r"
   refine ⟨pr,acc,List (Nat×Nat),inferInstance,rT,rows,rfl,SqL.of e4,hat.same s4,fun a b=>bu8,rT_h,by omega,fun d2 H5 f5 s5 hD2=>?_⟩
   walk_at "r"
   have s25:=s3.trans (s4.trans s5)
   have hD5:=a64 hD s25
   subst hTC5
   walk_at "r"
   refine ⟨d1,_,rfl,hD5,fun p6 ks H6 f6 s6 e6 hk6=>?_⟩
   rw [show (numd sT L).map (·.1)=L.map sT from aj9 _ _ _] at hk6
   walk_at "r"
   refine ⟨p6,ks,L,W,rfl,SqL.of e6,hk6,Ll,fun s hs=>⟨?_,(hin s ((Lm s).mp hs)).2⟩,hW,fun px txs H7 f7 s7 e7 txnd txm txl=>?_⟩
   · rcases List.mem_cons.mp ((Lm s).mp hs) with rfl | h
     · exact ok.ns
     · obtain ⟨r,hr,hx⟩:=List.mem_flatMap.mp h
       obtain ⟨x,hx2,rfl⟩:=List.mem_map.mp hx
       exact ((ok.ok r hr).2 x hx2).2
   walk_at "r"
   refine ⟨px,strsV txs,Str,inferInstance,Tr.str,txs,rfl,SqL.of e7,b09 txs,fun a b h=>by injection h,fun x=>by simp [Tr.h],by omega,fun d3 H8 f8 s8 hD3=>?_⟩
   rw [bk0 txnd] at hD3
   have s58:=s6.trans (s7.trans s8)
   have s08:=s02.trans (s25.trans s58)
   have e7':=s8 _ _ e7
   have e4':=(s5.trans s58) _ _ e4
   have hat8:=hat.same (s4.trans (s5.trans s58))
   have fpx:H px=none:=s02.free (s25.free (s6.free f7))
   have hD8:=a64 hD5 s58
   have hD28:=a64 hD2 s58
   have fd1:H d1=none:=s1.free f2
   have fd2:H d2=none:=s02.free ((s3.trans s4).free f5)
   have d12:d2≠d1:=by
    obtain ⟨φ,hφ⟩:=(a64 hD (s3.trans s4)).ext
    exact (a05 hφ f5).symm
   have d13:d3≠d1:=by
    obtain ⟨φ,hφ⟩:=(a64 hD5 (s6.trans s7)).ext
    exact (a05 hφ f8).symm
   have d23:d3≠d2:=by
    obtain ⟨φ,hφ⟩:=(a64 hD2 (s6.trans s7)).ext
    exact (a05 hφ f8).symm
   clear hk6 e6 f6 hD5 hD2 hD e7 e4 hat f7 s6 s7 s8 s25 s3 s4 s5 s1 s2 s02 hs1 e1 f1 f2 f4 f5 f8 s58 hL
   walk_at "r"
   subst hTC7
   walk_at "r"
   refine ad3 (SqL.of (s08 _ _ h5)) ?_
   walk_at "r"
   refine ⟨d1,_,rfl,hD8,?_⟩
   walk_at "r"
   refine ⟨d2,_,rfl,hD28,?_⟩
   walk_at "r"
   refine a65 (SqT.of (s08 _ _ h1)) (a04 (j:=1) rfl) ?_
   walk_at "r"
   refine ai2 (SqL.of (s08 _ _ h4)) ?_
   intro pq H9 f9 s9 e9
   obtain ⟨n0,hn0,hval0⟩:=ao5 (f:=sT) (fun a b=>bj8) Lnd ((Lm sy).mpr (List.mem_cons_self ..))
   refine ⟨d1,_,sT sy,_,rfl,a64 hD8 s9,⟨bs2 e9,sT_h _⟩,hval0,?_⟩
   walk_at "r"
   unfold numd
   rw [ag1,ag1,rl]
   intro pc H10 f10 s10 e10
   walk_at "r"
   subst hTF1
   walk_at "r"
   have fpc:H pc=none:=s08.free (s9.free f10)
   have s09:=s08.trans s9
   have hml:=b62 rows
   obtain ⟨hd4,hhd⟩:∃ hd4:List Nat,hd4=[rs.length,L.length,(mets rows).length,n0]:=⟨_,rfl⟩
   have h4l:hd4.length=4:=by rw [hhd]; rfl
   obtain ⟨Pv,hPv⟩:∃ Pv:Nat→St→Hp→Prop,Pv=(fun i σ H'=>i≤rs.length∧Same H9 H'∧(∃ told:List Nat,H' pc=some (.lst (natsV (hd4++told)))∧told.length=i∧∀ (j:Nat) (r:a60),j<i→rs[j]?=some r→∃ row m,rows[j]?=some row∧(mets rows)[m]?=some row∧told[j]?=some (2*m+if r.1=true then 1 else 0))∧∃ y z,σ=[some (.ref tt),some (.ref c),some (.ref d1),some (.ref pr),some (.ref d2),some (.ref px),some (.ref d3),some (.ref pc),y,z,none,none]):=⟨_,rfl⟩
   refine ⟨c,pr,rfl,⟨_,SqL.of ((s09.trans s10) _ _ h5)⟩,⟨_,SqL.of ((s9.trans s10) _ _ e4')⟩,be7 (K:=K) (xs:=rvs) (ys:=acc) (by omega) Pv (by rw [hPv]; exact ⟨Nat.zero_le _,s10,⟨[],by rw [e10,hhd]; rfl,rfl,fun j r h=>absurd h (by omega)⟩,_,_,rfl⟩) (fun i σ H' _ hI=>by rw [hPv] at hI; obtain ⟨_,s',_⟩:=hI; exact ⟨SqL.of ((s09.trans s') _ _ h5),SqL.of ((s9.trans s') _ _ e4')⟩) ?_ ?_⟩
   · intro i v u σ H11 p12 H12 hv hu hI s12 e12
     rw [hPv] at hI
     obtain ⟨hi,s11,⟨told,e11,htl,ht⟩,y,z,rfl⟩:=hI
     have s912:=s11.trans s12
     have s012:=s09.trans s912
     obtain ⟨tx,fx,hx1,hx2,_⟩:=(h6.same s012).get i v hv
     rw [gM] at hx1
     obtain ⟨r,hr,rfl⟩:=gO hx1
     obtain ⟨q1,g,ps,gs1,rfl,k1,k2,k3,rfl⟩:=room_w.mp hx2
     obtain ⟨ty,hy1,hy2⟩:=aa0 (hat8.same (s9.trans s912)) hu
     rw [gM] at hy1
     obtain ⟨row,hrow1,rfl⟩:=gO hy1
     have hi':i<rs.length:=(gS hr).1
     obtain ⟨m,hm,hval⟩:=ao5 (f:=rT) (fun a b=>bu8) (b08 rows) ((at3 row rows).mpr (gI hrow1))
     have hmlt:m<(mets rows).length:=(gS hm).1
     refine am3 (SqT.of e12) rfl ?_
     walk_at "r"
     refine aj4 (SqL.of (s12 _ _ e11)) ?_
     walk_at "r"
     refine ⟨d2,_,rT row,_,rfl,a64 hD28 (s9.trans s912),⟨hy2,rT_h _⟩,hval,?_⟩
     walk_at "r"
     refine a65 (SqT.of k1) (a04 (j:=0) rfl) ?_
     walk_at "r"
     have fin:∀ n:Nat,n=2*m+(if r.1=true then 1 else 0)→∀ vv:V,vv=.int (n:Nat)→rAppend (.ref pc) [vv] H12 fun x H1=>Pv (i+1) [some (V.ref tt),some (.ref c),some (.ref d1),some (.ref pr),some (.ref d2),some (.ref px),some (.ref d3),some (.ref pc),some (V.ref q1),some u,none,none] H1:=by
      rintro n hn vv rfl
      refine ae4 (s12 _ _ e11) (by rw [a56,List.length_append]; omega) ?_
      rw [hPv]
      refine ⟨hi',s912.updNew f10,⟨told++[n],by rw [a41,ac0,List.append_assoc],by simp [htl],fun j r' hj hr'=>?_⟩,_,_,rfl⟩
      by_cases hji:j=i
      · subst hji
        rw [hr] at hr'
        cases hr'
        exact ⟨row,m,hrow1,hm,by rw [List.getElem?_append_right (by omega),htl,Nat.sub_self,←hn]; rfl⟩
      · obtain ⟨row',m',a1,a2,a3⟩:=ht j r' (by omega) hr'
        exact ⟨row',m',a1,a2,by rw [List.getElem?_append_left (gS a3).1]; exact a3⟩
     refine ite2 (fun hb=>?_) (fun hb=>?_)
     · rw [if_pos hb] at fin
       walk_at "r"
       exact fin (2*m+1) rfl _ (by rw [show ((2*m+1:Nat):Int)=2*(m:Nat)+1 by omega])
     · rw [if_neg hb] at fin
       walk_at "r"
       exact fin (2*m) rfl _ (by rw [show ((2*m:Nat):Int)=2*(m:Nat)+0 by omega])
   intro σ H11 hI
   rw [hPv] at hI
   obtain ⟨_,s11,⟨told,e11,htl,ht⟩,y,z,rfl⟩:=hI
   clear hPv Pv
   rw [rl] at htl ht
   walk_at "r"
   subst hTF2
   walk_at "r"
   have s911:=s9.trans s11
   refine ⟨d2,_,rfl,a64 hD28 s911,fun m2 o2 H12 hm2 hk2 fz2=>?_⟩
   have hD1:=a64 hD8 s911
   have hD311:=a64 hD3 s911
   have e7'':=s911 _ _ e7'
   have s011:=s08.trans s911
   have npc:∀ {x:Addr}{o:HO},H8 x=some o→x≠pc:=fun e=>a05 (s9 _ _ e) f10
   have npc2:pc≠d2:=by
    obtain ⟨φ,hφ⟩:=hD28.ext
    exact (npc hφ).symm
   have npc1:pc≠d1:=by
    obtain ⟨φ,hφ⟩:=hD8.ext
    exact (npc hφ).symm
   have npc3:d3≠pc:=by
    obtain ⟨φ,hφ⟩:=hD3.ext
    exact npc hφ
   have npx:px≠pc:=npc e7'
   have t12:Tups H11 H12:=fun b ys e=>by
    obtain ⟨φ,hφ⟩:=(a64 hD28 s911).ext
    exact hk2 b _ (ag4 e hφ (fun z=>nomatch z)) e
   have hml2:m2.length=(mets rows).length:=by
    have:=congrArg List.length hm2
    simpa [numd,ag1] using this
   have hkey2:∀ (i:Nat) x,m2[i]?=some x→∃ row,(mets rows)[i]?=some row∧x.1=rT row:=fun i x hx=>by
    have h:(m2.map fun x=>(x.1,x.2.2)).map (·.1)=(mets rows).map rT:=by rw [hm2]; exact aj9 _ _ _
    have h':=congrArg (fun l=>l[i]?) h
    simp only [gM,hx,Option.map_some] at h'
    obtain ⟨row,a1,a2⟩:=gO h'.symm
    exact ⟨row,a1,a2.symm⟩
   have hrok:∀ row∈mets rows,∃ r∈rs,PairsOf L r row∧row.length=es.length:=fun row hr=>by
    obtain ⟨j,hj,rfl⟩:=List.mem_iff_getElem.mp ((at3 _ _).mp hr)
    have hj':j<rs.length:=by omega
    obtain ⟨row',a1,a2⟩:=hrow j rs[j] hj' (gE hj')
    rw [gE hj] at a1
    cases a1
    exact ⟨rs[j],List.getElem_mem _,a2,by rw [a2.1]; exact (ok.ok _ (List.getElem_mem _)).1⟩
   have hel:=ok.ne
   have hb2:∀ (shs:List Sh) (i:Nat),i≤(mets rows).length→shs.length=i→(∀ (j:Nat) (row:List (Nat×Nat)),j<i→(mets rows)[j]?=some row→∃ c∈row,shs[j]?=some (c,excF c row 0))→(∀ h∈shs,h.2.length≤20)∧(blocks (shs.map shL)).length≤6300:=fun shs i hi hl hs=>by
    have h1:∀ h∈shs,h.2.length≤20:=fun h hh=>by
     obtain ⟨j,hj,rfl⟩:=List.mem_iff_getElem.mp hh
     have hj':j<(mets rows).length:=by omega
     obtain ⟨c,_,e⟩:=hs j (mets rows)[j] (by omega) (gE hj')
     rw [gE hj] at e
     injection e with e
     rw [e]
     have:=ak0 c (mets rows)[j] 0
     obtain ⟨r,_,_,h⟩:=hrok (mets rows)[j] (List.getElem_mem _)
     simp only
     omega
    refine ⟨h1,?_⟩
    have:=aq7 (f:=fun l:List Nat=>l.length::l) (n:=63) (l:=shs.map shL) fun l hl=>by
     obtain ⟨h,hh,rfl⟩:=List.mem_map.mp hl
     have:=h1 h hh
     simp only [List.length_cons,shL,ah4]
     omega
    have h2:=Nat.mul_le_mul_right 63 (show (shs.map shL).length≤100 by rw [gL]; omega)
    unfold blocks
    omega
   obtain ⟨Pv,hPv⟩:∃ Pv:Nat→St→Hp→Prop,Pv=(fun i σ H'=>i≤m2.length∧(∀ x o,x≠d2→x≠pc→H11 x=some o→H' x=some o)∧FzAt w.params H' d2 m2 o2∧(∃ shs:List Sh,H' pc=some (.lst (natsV (hd4++told++blocks (shs.map shL))))∧shs.length=i∧∀ (j:Nat) (row:List (Nat×Nat)),j<i→(mets rows)[j]?=some row→∃ c∈row,shs[j]?=some (c,excF c row 0))∧∃ y z u,σ=[some (.ref tt),some (.ref c),some (.ref d1),some (.ref pr),some (.ref d2),some (.ref px),some (.ref d3),some (.ref pc),y,z,u,none]):=⟨_,rfl⟩
   refine bg4 Pv (by rw [hPv]; exact ⟨Nat.zero_le _,fun x o h1 h2 e=>hk2 x o h1 e,fz2,⟨[],by rw [hk2 _ _ npc2 e11]; simp [blocks],rfl,fun j row h=>absurd h (by omega)⟩,_,_,_,rfl⟩) (fun i σ H' _ hI=>by rw [hPv] at hI; obtain ⟨_,_,h,_⟩:=hI; exact h.e) ?_ ?_
   · intro i x σ H13 hx hI
     rw [hPv] at hI
     obtain ⟨hi,hk,fz,⟨shs,e13,hsl2,hsh⟩,y,z,u,rfl⟩:=hI
     have hxm:=gI hx
     obtain ⟨row,hrow1,hxr⟩:=hkey2 i x hx
     have hrm:=gI hrow1
     obtain ⟨r,hr,hpo,hrlen⟩:=hrok row hrm
     have hat13:=(fz.k x hxm).1
     rw [hxr] at hat13
     obtain ⟨ra,rus,hra,hrt,hrats⟩:=at_tup0.mp hat13
     rw [hra]
     have hi':i<(mets rows).length:=(gS hrow1).1
     obtain ⟨hb3,hb4⟩:=hb2 shs i (by omega) hsl2 hsh
     walk_at "r"
     refine aj4 (SqL.of e13) ?_
     walk_at "r"
     refine ⟨ra,rus,row,rfl,hrt,hrats,by omega,by omega,fun p14 cc H14 f14 s14 hcc e14=>?_⟩
     walk_at "r"
     have hlen14:(shL (cc,excF cc row 0)).length≤62:=by
      have:=ak0 cc row 0
      simp only [shL,List.length_cons,ah4]
      omega
     refine ⟨p14,_,rfl,e14,by omega,fun p15 H15 f15 s15 e15=>?_⟩
     walk_at "r"
     have s1315:=s14.trans s15
     have e13':=s1315 _ _ e13
     refine al8 e13' e15 (by simp only [a56,List.length_append,List.length_cons]; omega) ?_
     rw [hPv]
     refine ⟨by omega,fun x o h1 h2 e=>by rw [a09 h2]; exact s1315 _ _ (hk x o h1 h2 e),(fz.same s1315).mono (Tups.upd e13') (a09 (Ne.symm npc2)),⟨shs++[(cc,excF cc row 0)],?_,by simp [hsl2],fun j row' hj hr'=>?_⟩,_,_,_,rfl⟩
     · rw [a41]
       simp [blocks,natsV]
     · by_cases hji:j=i
       · subst hji
         rw [hrow1] at hr'
         cases hr'
         exact ⟨cc,hcc,by rw [List.getElem?_append_right (by omega),hsl2,Nat.sub_self]; rfl⟩
       · obtain ⟨c',a1,a2⟩:=hsh j row' (by omega) hr'
         exact ⟨c',a1,by rw [List.getElem?_append_left (gS a2).1]; exact a2⟩
   intro σ H13 hI
   rw [hPv] at hI
   obtain ⟨_,hk,fz,⟨shs,e13,hsl2,hsh⟩,y,z,u,rfl⟩:=hI
   clear hPv Pv
   walk_at "r"
   subst hTF3
   walk_at "r"
   rw [hml2] at hsl2 hsh
   obtain ⟨hb3,hb4⟩:=hb2 shs _ (Nat.le_refl _) hsl2 hsh
   obtain ⟨φ1,hφ1⟩:=hD1.ext
   obtain ⟨φ2,hφ2⟩:=(a64 hD28 s911).ext
   obtain ⟨φ3,hφ3⟩:=hD311.ext
   have t13:Tups H11 H13:=fun b ys e=>hk b _ (ag4 e hφ2 (fun z=>nomatch z)) (ag4 e e11 (fun z=>nomatch z)) e
   have hD13:DtAt w.params H13 d1 (numd sT L):=hD1.mono t13 (by rw [hφ1]; exact hk _ _ (Ne.symm d12) (Ne.symm npc1) hφ1)
   have hD313:DtAt w.params H13 d3 (numd Tr.str txs):=hD311.mono t13 (by rw [hφ3]; exact hk _ _ d23 npc3 hφ3)
   obtain ⟨φ4,hφ4⟩:=hD313.ext
   obtain ⟨φ5,hφ5⟩:=hD13.ext
   refine ⟨d1,_,rfl,hD13,fun m1 o1 H14 hm1 hk1 fz1=>?_⟩
   have t14:Tups H13 H14:=fun b ys e=>hk1 b _ (ag4 e hφ5 (fun z=>nomatch z)) e
   have hml1:m1.length=L.length:=by
    have:=congrArg List.length hm1
    simpa [numd,ag1] using this
   have hkey1:∀ (i:Nat) x,m1[i]?=some x→∃ s,L[i]?=some s∧x.1=sT s:=fun i x hx=>by
    have h:(m1.map fun x=>(x.1,x.2.2)).map (·.1)=L.map sT:=by rw [hm1]; exact aj9 _ _ _
    have h':=congrArg (fun l=>l[i]?) h
    simp only [gM,hx,Option.map_some] at h'
    obtain ⟨row,a1,a2⟩:=gO h'.symm
    exact ⟨row,a1,a2.symm⟩
   have hLl:∀ s∈L,s.length≤20:=fun s hs=>by
    rcases List.mem_cons.mp ((Lm s).mp hs) with rfl | h
    · exact ok.ns
    · obtain ⟨r,hr,hx⟩:=List.mem_flatMap.mp h
      obtain ⟨x,hx2,rfl⟩:=List.mem_map.mp hx
      exact ((ok.ok r hr).2 x hx2).2
   have hb5:∀ (sys:List (List Nat)) (i:Nat),i≤L.length→sys.length=i→(∀ (j:Nat) (s:List Str),j<i→L[j]?=some s→∃ l,sys[j]?=some l∧l.length=s.length∧txOf txs l=s∧∀ n∈l,n<txs.length)→(∀ l∈sys,l.length≤20∧∀ n∈l,n<txs.length)∧(blocks sys).length≤1050:=fun sys i hi hl hs=>by
    have h1:∀ l∈sys,l.length≤20∧∀ n∈l,n<txs.length:=fun l hh=>by
     obtain ⟨j,hj,rfl⟩:=List.mem_iff_getElem.mp hh
     have hj':j<L.length:=by omega
     obtain ⟨c,e,e2,_,e3⟩:=hs j L[j] (by omega) (gE hj')
     rw [gE hj] at e
     injection e with e
     rw [e]
     exact ⟨by rw [e2]; exact hLl _ (List.getElem_mem _),e3⟩
    refine ⟨h1,?_⟩
    have:=aq7 (f:=fun l:List Nat=>l.length::l) (n:=21) (l:=sys) fun l hl=>by
     have:=(h1 l hl).1
     simp only [List.length_cons]
     omega
    have h2:=Nat.mul_le_mul_right 21 (show sys.length≤50 by omega)
    unfold blocks
    omega
   obtain ⟨Pv,hPv⟩:∃ Pv:Nat→St→Hp→Prop,Pv=(fun i σ H'=>i≤m1.length∧(∀ x o,x≠d1→x≠pc→H13 x=some o→H' x=some o)∧FzAt w.params H' d1 m1 o1∧(∃ sys:List (List Nat),H' pc=some (.lst (natsV (hd4++told++blocks (shs.map shL)++blocks sys)))∧sys.length=i∧∀ (j:Nat) (s:List Str),j<i→L[j]?=some s→∃ l,sys[j]?=some l∧l.length=s.length∧txOf txs l=s∧∀ n∈l,n<txs.length)∧∃ y z u v,σ=[some (.ref tt),some (.ref c),some (.ref d1),some (.ref pr),some (.ref d2),some (.ref px),some (.ref d3),some (.ref pc),y,z,u,v]):=⟨_,rfl⟩
   refine bg4 Pv (by rw [hPv]; exact ⟨Nat.zero_le _,fun x o h1 h2 e=>hk1 x o h1 e,fz1,⟨[],by rw [hk1 _ _ npc1 e13]; simp [blocks],rfl,fun j row h=>absurd h (by omega)⟩,_,_,_,_,rfl⟩) (fun i σ H' _ hI=>by rw [hPv] at hI; obtain ⟨_,_,h,_⟩:=hI; exact h.e) ?_ ?_
   · intro i x σ H15 hx hI
     rw [hPv] at hI
     obtain ⟨hi,hk5,fz5,⟨sys,e15,hsl5,hsy⟩,y,z,u,v,rfl⟩:=hI
     have hxm:=gI hx
     obtain ⟨sg,hsg,hxr⟩:=hkey1 i x hx
     have hsm:=gI hsg
     have hat15:=(fz5.k x hxm).1
     rw [hxr] at hat15
     obtain ⟨sa,hsa,hst⟩:=ce1 hat15
     rw [hsa]
     have hi':i<L.length:=(gS hsg).1
     obtain ⟨_,hb6⟩:=hb5 sys i (by omega) hsl5 hsy
     have hsgl:=hLl sg hsm
     have t15:Tups H13 H15:=fun b ys e=>hk5 b _ (ag4 e hφ5 (fun z=>nomatch z)) (ag4 e e13 (fun z=>nomatch z)) e
     have hD15:DtAt w.params H15 d3 (numd Tr.str txs):=hD313.mono t15 (by rw [hφ4]; exact hk5 _ _ d13 npc3 hφ4)
     walk_at "r"
     refine aj4 (SqL.of e15) ?_
     walk_at "r"
     refine ⟨⟨_,SqT.of hst⟩,c83 (xs:=strsV sg) (by simp only [strsV,gL]; omega) (fun i acc H'=>i≤sg.length∧H'=H15∧∃ l,acc=natsV l∧l.length=i∧txOf txs l=sg.take i∧∀ n∈l,n<txs.length) ⟨Nat.zero_le _,rfl,[],rfl,rfl,rfl,by simp⟩ (fun i acc H' ⟨_,e,l,e2,e3,_⟩=>⟨by rw [e2,a56]; omega,e ▸ SqT.of hst⟩) ?_ ?_⟩
     · rintro j x' acc' H' hx' ⟨hj,rfl,l,rfl,hll,htx,hln⟩
       obtain ⟨t0,ht0,rfl⟩:=aw4 hx'
       have ht0m:t0∈txs:=(txm t0).mpr ⟨sg,hsm,gI ht0⟩
       obtain ⟨n,hn,hvn⟩:=ao5 (f:=Tr.str) (fun a b h=>by injection h) txnd ht0m
       walk_at "r"
       refine ⟨d3,_,.str t0,_,rfl,hD15,⟨ag8,by simp [Tr.h]⟩,hvn,?_⟩
       refine ⟨(gS ht0).1,rfl,l++[n],ac0 _ _,by simp [hll],?_,fun k hk=>?_⟩
       · rw [List.take_add_one,ht0]
         unfold txOf at htx ⊢
         rw [List.map_append,htx]
         simp [hn]
       · rcases gA hk with h | h
         · exact hln k h
         · rw [gG h]; exact (gS hn).1
     rintro acc' H' ⟨_,rfl,l,rfl,hll,htx,hln⟩ p16 H16 f16 s16 e16
     rw [show (strsV sg).length=sg.length by simp [strsV]] at hll htx
     rw [List.take_length] at htx
     walk_at "r"
     refine ⟨p16,_,rfl,e16,by omega,fun p17 H17 f17 s17 e17=>?_⟩
     walk_at "r"
     have s1517:=s16.trans s17
     have e15':=s1517 _ _ e15
     refine al8 e15' e17 (by simp only [a56,List.length_append,List.length_cons]; omega) ?_
     rw [hPv]
     refine ⟨by omega,fun x o h1 h2 e=>by rw [a09 h2]; exact s1517 _ _ (hk5 x o h1 h2 e),(fz5.same s1517).mono (Tups.upd e15') (a09 (Ne.symm npc1)),⟨sys++[l],?_,by simp [hsl5],fun j row' hj hr'=>?_⟩,_,_,_,_,rfl⟩
     · rw [a41]
       simp [blocks,natsV]
     · by_cases hji:j=i
       · subst hji
         rw [hsg] at hr'
         cases hr'
         exact ⟨l,by rw [List.getElem?_append_right (by omega),hsl5,Nat.sub_self]; rfl,hll,htx,hln⟩
       · obtain ⟨c',a1,a2⟩:=hsy j row' (by omega) hr'
         exact ⟨c',by rw [List.getElem?_append_left (gS a1).1]; exact a1,a2⟩
   intro σ H15 hI
   rw [hPv] at hI
   obtain ⟨_,hk5,fz5,⟨sys,e15,hsl5,hsy⟩,y,z,u,v,rfl⟩:=hI
   clear hPv Pv
   rw [hml1] at hsl5 hsy
   obtain ⟨hb7,hb8⟩:=hb5 sys _ (Nat.le_refl _) hsl5 hsy
   have k15:∀ x o,x≠d1→x≠d2→x≠pc→H11 x=some o→H15 x=some o:=fun x o a1 a2 a3 e=>hk5 x o a1 a3 (hk x o a2 a3 e)
   have s015:Same H H15:=fun x o e=>k15 x o (a05 e fd1) (a05 e fd2) (a05 e fpc) (s011 _ _ e)
   walk_at "r"
   refine a65 (SqT.of (s015 _ _ h1)) (a04 (j:=0) rfl) ?_
   walk_at "r"
   refine ae8 (SqL.of (s015 _ _ h2)) ?_
   intro pe H16 f16 s16 e16
   walk_at "r"
   intro pt H17 f17 s17 e17
   have s1517:=s16.trans s17
   have e17x:H15 px=some (.lst (strsV txs)):=k15 _ _ (ag4 e7'' hφ1 (fun z=>nomatch z)) (ag4 e7'' hφ2 (fun z=>nomatch z)) npx e7''
   refine q pt pe px pc us txs ⟨told,shs,sys,n0⟩ H17 ⟨s015.trans s1517,e17,s015.free f16,fpx,fpc,(a05 e17x f16).symm,(a05 e15 f16).symm,npx,s17 _ _ e16,h3.same (s015.trans s1517),s1517 _ _ e17x,?_,?_,txl,?_⟩
   · rw [s1517 _ _ e15,hhd]
     simp [Pk.cells,htl,hsl2,hsl5]
   · exact bs5 ok hr0 hnr htl (by omega) hsl2 (by omega) hsl5 (by omega) ht hrok hsh (fun l hl=>⟨by have:=(hb7 l hl).1; omega,(hb7 l hl).2⟩) hn0
   · exact bs6 htl ht hrow hsh hsy hn0
def SAID:List (List Str):=[[],["a"],["yes"],["a","a"],["0:go","a"],["1:yes"],["b","c","5:no"],["zz"]]
theorem b64:∀ x∈SAID,x.length≤20:=by decide +kernel
def TxtsAt (H:Hp) (ls:List Addr) (ts:List (List Str)):Prop:=Each (fun l t=>H l=some (.lst (strsV t))) ls ts
theorem TxtsAt.add {H H':Hp}{ls:List Addr}{ts:List (List Str)}{l:Addr}{t:List Str}(h:TxtsAt H ls ts) (s:Same H H') (e:H' l=some (.lst (strsV t))):TxtsAt H' (ls++[l]) (ts++[t]):=Each.snoc (h.mono fun l t h=>s _ _ h) e
theorem TxtsAt.same {H H':Hp}{ls:List Addr}{ts:List (List Str)}(h:TxtsAt H ls ts) (s:Same H H'):TxtsAt H' ls ts:=h.mono fun l t h=>s _ _ h
theorem StA.not_str {H:Hp}{s:Addr}{z:Int}(k:StA H s z) {p:Addr}{t:List Str}(h:H p=some (.lst (strsV t))):p≠s:=by
 obtain ⟨x,e⟩:=k
 rintro rfl
 rw [e] at h
 cases t <;> simp [strsV] at h
def c07 (K:W.Frag):Sp:=fun vs H Q _=>∃ (s:Addr) (z:Int) (m:Nat),vs=[.ref s,.int (m:Nat)]∧StA H s z∧0<m∧m≤8∧∀ l x H',Oth s H H'→StA H' s z→H l=none→H' l=some (.lst (strsV x))→x∈SAID→Q (.ref l) H'
theorem b42 (T:Txt K mg t):FnOk P w K mg base CX0 2 t.a__law_said t.fd__law_said ["state","many"] (c07 K):=by
 have G__law_take:=af8 (P:=P) (w:=w) (base:=base) T
 refine T.F__law_said.ok sc_law_said (fun vs H Q E h=>?_) (fun cdv A outer s H vs Q E hr h=>?_)
 · obtain ⟨s0,z,m,rfl,_⟩:=h
   rfl
 · obtain ⟨s0,z,m,rfl,hs,hm0,hm8,q⟩:=h
   refine ⟨_,(@a02 _ _ _ _ _ (@a45 _ _ 2 _ _ _ _ sc_law_said.nd rfl (by walk_at "o") (@a48 _ _ _ _ (@a00 _ _ _ _ _ (@a48 _ _ _ _ (@a01 _)) (@a00 _ _ _ _ _ (@a48 _ _ _ _ (@a00 _ _ _ _ _ (@ab8 _ _ _ _) (@a01 _) (by rfl))) (@a00 _ _ _ _ _ (@a48 _ _ _ _ (@a00 _ _ _ _ _ (@ab8 _ _ _ _) (@a01 _) (by rfl))) (@a00 _ _ _ _ _ (@a48 _ _ _ _ (@a00 _ _ _ _ _ (@ab8 _ _ _ _) (@a00 _ _ _ _ _ (@ab8 _ _ _ _) (@a01 _) (by rfl)) (by rfl))) (@a00 _ _ _ _ _ (@a48 _ _ _ _ (@a00 _ _ _ _ _ (@ab8 _ _ _ _) (@a00 _ _ _ _ _ (@ab8 _ _ _ _) (@a01 _) (by rfl)) (by rfl))) (@a00 _ _ _ _ _ (@a48 _ _ _ _ (@a00 _ _ _ _ _ (@ab8 _ _ _ _) (@a01 _) (by rfl))) (@a00 _ _ _ _ _ (@a48 _ _ _ _ (@a00 _ _ _ _ _ (@ab8 _ _ _ _) (@a00 _ _ _ _ _ (@ab8 _ _ _ _) (@a00 _ _ _ _ _ (@ab8 _ _ _ _) (@a01 _) (by rfl)) (by rfl)) (by rfl))) (@a00 _ _ _ _ _ (@a48 _ _ _ _ (@a00 _ _ _ _ _ (@ab8 _ _ _ _) (@a01 _) (by rfl))) (@a01 _) (by rfl)) (by rfl)) (by rfl)) (by rfl)) (by rfl)) (by rfl)) (by rfl)) (by rfl))) (by rfl) (by walk_at "o"))
    (@a06 _ _ _ (@a54 _ _ _ _ (@a63 _ _ _ _ _ _ _ _ _ (ad0 K) (by rfl) T.z_list ac8 (@a00 _ _ _ _ _ (@a44 _ _ _ _ _ _ _ (a42 K) (pv 2) (@a40 _ _ _ _ _ _ _ _ _ _ _ _ _ _ _ _ G__law_take (hr.mono (by omega)) rfl T.m__law_take T.F__law_take.kp T.b__law_take .nil a55 (@a00 _ _ _ _ _ (pv 0) (@a00 _ _ _ _ _ (pv 1) (@a01 _) (by rfl)) (by rfl)) (by decide) (by rfl) (by rfl)) (fun _ _=>rfl)) (@a01 _) (by rfl)) (by decide) (by decide) (by rfl) (by rfl))))),?_⟩
   have sl:(1000000:Nat)≤sizeLine:=le_line (Nat.le_refl _)
   walk_at "go"
   intro a0 H1 f0 s0' e0
   walk_at "r"
   intro a1 H2 f1 s1 e1
   walk_at "r"
   intro a2 H3 f2 s2 e2
   walk_at "r"
   intro a3 H4 f3 s3 e3
   walk_at "r"
   intro a4 H5 f4 s4 e4
   walk_at "r"
   intro a5 H6 f5 s5 e5
   walk_at "r"
   intro a6 H7 f6 s6 e6
   walk_at "r"
   intro a7 H8 f7 s7 e7
   walk_at "r"
   intro a8 H15 f8 s8 e8
   have T15:TxtsAt H15 [a0,a1,a2,a3,a4,a5,a6,a7] SAID :=
    (((((((((show TxtsAt H [] [] from Each.nil).add s0' e0).add s1 e1).add s2 e2).add s3 e3).add s4 e4).add s5 e5).add s6 e6).add s7 e7).same s8
   have s08:Same H H8:=s0'.trans (s1.trans (s2.trans (s3.trans (s4.trans (s5.trans (s6.trans s7))))))
   have s015:=s08.trans s8
   clear e0 e1 e2 e3 e4 e5 e6 e7 f0 f1 f2 f3 f4 f5 f6 f7 s0' s1 s2 s3 s4 s5 s6 s7
   walk_at "r"
   have k15:=hs.same s015
   have nb6:a8≠s0:=(hs.same s08).ne f8
   refine ⟨s0,z,m,rfl,k15,hm0,by omega,fun r H16 hr o16 k16=>?_⟩
   walk_at "r"
   have e16:=o16 _ _ nb6 e8
   have hrl:r<SAID.length:=Nat.lt_of_lt_of_le hr hm8
   obtain ⟨av,hav,hat⟩:=Each.get T15 (gE hrl)
   have hat16:=o16 _ _ (k15.not_str hat) hat
   refine a93 (SqL.of e16) (a04 (j:=r) (v:=.ref av) (by
    have h:=congrArg (Option.map V.ref) hav
    rw [← gM] at h
    exact h)) ?_
   walk_at "r"
   refine ae8 (SqL.of hat16) ?_
   intro p17 H17 f17 s17 e17
   exact q p17 _ H17 (((ad9 s015).trans o16).trans (ad9 s17)) (k16.same s17) (((ad9 s015).trans o16).free k16 f17) e17 (List.getElem_mem hrl)
def RowsOk (es:List Ev) (m:Nat) (rows:List Row):Prop:=rows.length=es.length∧∀ x∈rows,x.2<m∧x.1∈SAID
theorem b65 {s:Addr}{H H':Hp}{z:Int}{gs:List Addr}(o:Oth s H H') (k:StA H s z) (h:∀ x∈gs,x≠s):Keep gs H H':=⟨o.tups k,fun a ha xs e=>o a _ (h a ha) e⟩
theorem of3 {r:Nat}{a b c:V}(h:r<3):∃ x,atI [a,b,c] (r:Nat)=some x∧(x=a∨x=b∨x=c):=by
 have:r=0∨r=1∨r=2:=by omega
 rcases this with rfl | rfl | rfl
 · exact ⟨a,a04 rfl,by simp⟩
 · exact ⟨b,a04 rfl,by simp⟩
 · exact ⟨c,a04 rfl,by simp⟩
structure Tabs (es:List Ev) (sy:List Str) (rs:List a60):Prop where
 ok:TabOk es sy rs
 nd:es.Nodup
 e0:0<es.length
 r0:0<rs.length
 sd:∀ s∈sayL sy rs,s∈SAID
def bs7 (K:W.Frag):Sp:=fun vs H Q _=>∃ (a:Addr) (ns:List Int),vs=[.ref a]∧SqL K H a (ns.map V.int)∧∀ v a b c es sy rs gs H',Same H H'→TabAt H' v a b c es sy rs gs→Tabs es sy rs→Q v H'
theorem ax3 (T:Txt K mg t):FnOk P w K mg base CX0 3 t.a__law_table t.fd__law_table ["script"] (bs7 K):=by
 have G__law_cell:=ao1 (P:=P) (w:=w) (base:=base) T
 have G__law_events:=at1 (P:=P) (w:=w) (base:=base) T
 have G__law_said:=b42 (P:=P) (w:=w) (base:=base) T
 have G__law_take:=af8 (P:=P) (w:=w) (base:=base) T
 refine T.F__law_table.ok sc_law_table (fun vs H Q E h=>?_) (fun cdv A outer s H vs Q E hr h=>?_)
 · obtain ⟨a,ns,rfl,_⟩:=h
   rfl
 · obtain ⟨a0,ns,rfl,hS,q⟩:=h
   refine ⟨_,(@a02 _ _ _ _ _ (@a45 _ _ 1 _ _ _ _ sc_law_table.nd rfl (by walk_at "o") (@a89 _ _ _ _ _ _ _ _ ai9 (@a59 _ _ _ _ _ _ _ _ _ (bf8 K) (by rfl) T.z_sum bt8 (@a00 _ _ _ _ _ (pv 0) (@a01 _) (by rfl)) (by decide) (by decide) (by rfl) (by rfl)) (@a03 _ _ _ _)) (by rfl) (by walk_at "o"))
    (@a02 _ _ _ _ _ (@a45 _ _ 2 _ _ _ _ sc_law_table.nd rfl (by walk_at "o") (@a48 _ _ _ _ (@a00 _ _ _ _ _ (@a40 _ _ _ _ _ _ _ _ _ _ _ _ _ _ _ _ G__law_cell (hr.mono (by omega)) rfl T.m__law_cell T.F__law_cell.kp T.b__law_cell .nil a55 (@a00 _ _ _ _ _ (pv 0) (@a00 _ _ _ _ _ (@a03 _ _ _ _) (@a00 _ _ _ _ _ (pv 1) (@a01 _) (by rfl)) (by rfl)) (by rfl)) (by decide) (by rfl) (by rfl)) (@a00 _ _ _ _ _ (pv 1) (@a01 _) (by rfl)) (by rfl))) (by rfl) (by walk_at "o"))
    (@a02 _ _ _ _ _ (@a45 _ _ 3 _ _ _ _ sc_law_table.nd rfl (by walk_at "o") (@a40 _ _ _ _ _ _ _ _ _ _ _ _ _ _ _ _ G__law_events (hr.mono (by omega)) rfl T.m__law_events T.F__law_events.kp T.b__law_events .nil a55 (@a00 _ _ _ _ _ (pv 2) (@a01 _) (by rfl)) (by decide) (by rfl) (by rfl)) (by rfl) (by walk_at "o"))
    (@a02 _ _ _ _ _ (@a45 _ _ 4 _ _ _ _ sc_law_table.nd rfl (by walk_at "o") (@a89 _ _ _ _ _ _ _ _ a86 (@a03 _ _ _ _) (@a40 _ _ _ _ _ _ _ _ _ _ _ _ _ _ _ _ G__law_take (hr.mono (by omega)) rfl T.m__law_take T.F__law_take.kp T.b__law_take .nil a55 (@a00 _ _ _ _ _ (pv 2) (@a00 _ _ _ _ _ (@a03 _ _ _ _) (@a01 _) (by rfl)) (by rfl)) (by decide) (by rfl) (by rfl))) (by rfl) (by walk_at "o"))
    (@a02 _ _ _ _ _ (@a45 _ _ 5 _ _ _ _ sc_law_table.nd rfl (by walk_at "o") (@a44 _ _ _ _ _ _ _ (a42 K) (@a48 _ _ _ _ (@a00 _ _ _ _ _ (@a03 _ _ _ _) (@a00 _ _ _ _ _ (@a03 _ _ _ _) (@a00 _ _ _ _ _ (@a03 _ _ _ _) (@a01 _) (by rfl)) (by rfl)) (by rfl))) (@a40 _ _ _ _ _ _ _ _ _ _ _ _ _ _ _ _ G__law_take (hr.mono (by omega)) rfl T.m__law_take T.F__law_take.kp T.b__law_take .nil a55 (@a00 _ _ _ _ _ (pv 2) (@a00 _ _ _ _ _ (@a03 _ _ _ _) (@a01 _) (by rfl)) (by rfl)) (by decide) (by rfl) (by rfl)) (fun _ _=>rfl)) (by rfl) (by walk_at "o"))
    (@a02 _ _ _ _ _ (@a45 _ _ 6 _ _ _ _ sc_law_table.nd rfl (by walk_at "o") (@a40 _ _ _ _ _ _ _ _ _ _ _ _ _ _ _ _ G__law_said (hr.mono (by omega)) rfl T.m__law_said T.F__law_said.kp T.b__law_said .nil a55 (@a00 _ _ _ _ _ (pv 2) (@a00 _ _ _ _ _ (@a03 _ _ _ _) (@a01 _) (by rfl)) (by rfl)) (by decide) (by rfl) (by rfl)) (by rfl) (by walk_at "o"))
    (@av3 _ _ _ _ _ (@ad7 _ _ _ _ _ _ _ _ (@a62 _ _ _ _ _ _ _ _ at9 (@a40 _ _ _ _ _ _ _ _ _ _ _ _ _ _ _ _ G__law_take (hr.mono (by omega)) rfl T.m__law_take T.F__law_take.kp T.b__law_take .nil a55 (@a00 _ _ _ _ _ (pv 2) (@a00 _ _ _ _ _ (@a03 _ _ _ _) (@a01 _) (by rfl)) (by rfl)) (by decide) (by rfl) (by rfl)) (@a03 _ _ _ _) (nomark _)) (@a06 _ _ _ (@a45 _ _ 4 _ _ _ _ sc_law_table.nd rfl (by walk_at "o") (@a89 _ _ _ _ _ _ _ _ a86 (@a03 _ _ _ _) (@a40 _ _ _ _ _ _ _ _ _ _ _ _ _ _ _ _ G__law_take (hr.mono (by omega)) rfl T.m__law_take T.F__law_take.kp T.b__law_take .nil a55 (@a00 _ _ _ _ _ (pv 2) (@a00 _ _ _ _ _ (@a03 _ _ _ _) (@a01 _) (by rfl)) (by rfl)) (by decide) (by rfl) (by rfl))) (by rfl) (by walk_at "o"))) (@a84 _))
    (@a02 _ _ _ _ _ (@a45 _ _ 7 _ _ _ _ sc_law_table.nd rfl (by walk_at "o") (@a48 _ _ _ _ (@a01 _)) (by rfl) (by walk_at "o"))
    (@a02 _ _ _ _ _ (@ac2 _ _ _ _ _ _ _ _ PassesOwn.never rfl (bb6 rfl T.z_range (@a00 _ _ _ _ _ (pv 4) (@a01 _) (by rfl))) (a47 (i:=8) sc_law_table.nd rfl (by walk_at "o")) (@a02 _ _ _ _ _ (@a45 _ _ 9 _ _ _ _ sc_law_table.nd rfl (by walk_at "o") (@a48 _ _ _ _ (@a00 _ _ _ _ _ (@a40 _ _ _ _ _ _ _ _ _ _ _ _ _ _ _ _ G__law_cell (hr.mono (by omega)) rfl T.m__law_cell T.F__law_cell.kp T.b__law_cell .nil a55 (@a00 _ _ _ _ _ (pv 0) (@a00 _ _ _ _ _ (@a89 _ _ _ _ _ _ _ _ a86 (@a03 _ _ _ _) (pv 8)) (@a00 _ _ _ _ _ (pv 1) (@a01 _) (by rfl)) (by rfl)) (by rfl)) (by decide) (by rfl) (by rfl)) (@a00 _ _ _ _ _ (pv 1) (@a01 _) (by rfl)) (by rfl))) (by rfl) (by walk_at "o"))
     (@a06 _ _ _ (@ad7 _ _ _ _ _ _ _ _ (@a62 _ _ _ _ _ _ _ _ at9 (@a40 _ _ _ _ _ _ _ _ _ _ _ _ _ _ _ _ G__law_take (hr.mono (by omega)) rfl T.m__law_take T.F__law_take.kp T.b__law_take .nil a55 (@a00 _ _ _ _ _ (pv 9) (@a00 _ _ _ _ _ (@a03 _ _ _ _) (@a01 _) (by rfl)) (by rfl)) (by decide) (by rfl) (by rfl)) (@a03 _ _ _ _) (nomark _)) (@a06 _ _ _ (@ab3 _ _ _ _ (@af2 _ K _ _ _ _ _ _ _ _ _ _ _ PySem.F.plainAttrs_list PySem.F.slot_list_append PySem.F.type_list_append ad2 (pv 7) (@a00 _ _ _ _ _ (@a66 _ _ _ _ _ (@a00 _ _ _ _ _ (@ag5 _ _ _ _) (@a00 _ _ _ _ _ (ak4 (Nt:=["event"]) (Nf:=["k"]) (caps:=[8]) rfl (ab4 (sc:=defScope a85) rfl rfl (by decide +kernel) (by decide +kernel) (by decide +kernel) rfl (by decide +kernel)) (a69 K (pv 3)) (fun _ _ _ _ _=>(a47 (i:=0) (show (["event","k"]:List Str).Nodup by decide +kernel) rfl (by walk_at "o"))) (fun _ _ _ _ _=>(@ab5 _)) (fun _ _ _ _ _=>(@a66 _ _ _ _ _ (@a00 _ _ _ _ _ (@a48 _ _ _ _ (@a01 _)) (@a00 _ _ _ _ _ (pv 1) (@a01 _) (by rfl)) (by rfl))))) (@a01 _) (by rfl)) (by rfl))) (@a01 _) (by rfl)) (by rfl) (by rfl) (by rfl) (by rfl) (by rfl) (by rfl)) (by rfl))) (@a02 _ _ _ _ _ (@a45 _ _ 10 _ _ _ _ sc_law_table.nd rfl (by walk_at "o") (@a44 _ _ _ _ _ _ _ (a42 K) (@a48 _ _ _ _ (@a00 _ _ _ _ _ (pv 4) (@a00 _ _ _ _ _ (@a03 _ _ _ _) (@a00 _ _ _ _ _ (@a03 _ _ _ _) (@a01 _) (by rfl)) (by rfl)) (by rfl))) (@a40 _ _ _ _ _ _ _ _ _ _ _ _ _ _ _ _ G__law_take (hr.mono (by omega)) rfl T.m__law_take T.F__law_take.kp T.b__law_take .nil a55 (@a00 _ _ _ _ _ (pv 9) (@a00 _ _ _ _ _ (@a03 _ _ _ _) (@a01 _) (by rfl)) (by rfl)) (by decide) (by rfl) (by rfl)) (fun _ _=>rfl)) (by rfl) (by walk_at "o"))
      (@a02 _ _ _ _ _ (bw7 (i:=11) (Nt:=["event"]) (Nf:=["state","kinds","wide","many"]) (caps:=[9,5,10,4]) rfl (ab4 (sc:=defScope a85) rfl rfl (by decide +kernel) (by decide +kernel) (by decide +kernel) rfl (by decide +kernel)) (a69 K (pv 3)) (fun _ _ _ _ _=>(a47 (i:=0) (show (["event","state","kinds","wide","many"]:List Str).Nodup by decide +kernel) rfl (by walk_at "o"))) (fun _ _ _ _ _=>(@ab5 _)) (fun _ _ _ _ _=>(@a66 _ _ _ _ _ (@a00 _ _ _ _ _ (@a40 _ _ _ _ _ _ _ _ _ _ _ _ _ _ _ _ G__law_said (hr.mono (by omega)) rfl T.m__law_said T.F__law_said.kp T.b__law_said .nil a55 (@a00 _ _ _ _ _ (pv 1) (@a00 _ _ _ _ _ (pv 2) (@a01 _) (by rfl)) (by rfl)) (by decide) (by rfl) (by rfl)) (@a00 _ _ _ _ _ (@a40 _ _ _ _ _ _ _ _ _ _ _ _ _ _ _ _ G__law_take (hr.mono (by omega)) rfl T.m__law_take T.F__law_take.kp T.b__law_take .nil a55 (@a00 _ _ _ _ _ (pv 1) (@a00 _ _ _ _ _ (@a59 _ _ _ _ _ _ _ _ _ aq0 (by rfl) T.z_min bt9 (@a00 _ _ _ _ _ (pv 3) (@a00 _ _ _ _ _ (pv 4) (@a01 _) (by rfl)) (by rfl)) (by decide) (by decide) (by rfl) (by rfl)) (@a01 _) (by rfl)) (by rfl)) (by decide) (by rfl) (by rfl)) (@a01 _) (by rfl)) (by rfl)))) sc_law_table.nd rfl (by walk_at "o") rfl)
      (@a06 _ _ _ (@ab3 _ _ _ _ (@af2 _ K _ _ _ _ _ _ _ _ _ _ _ PySem.F.plainAttrs_list PySem.F.slot_list_append PySem.F.type_list_append ad2 (pv 7) (@a00 _ _ _ _ _ (@a66 _ _ _ _ _ (@a00 _ _ _ _ _ (@ag5 _ _ _ _) (@a00 _ _ _ _ _ (pv 11) (@a01 _) (by rfl)) (by rfl))) (@a01 _) (by rfl)) (by rfl) (by rfl) (by rfl) (by rfl) (by rfl) (by rfl)) (by rfl)))))))) (by intro _; rfl))
    (@a06 _ _ _ (@a54 _ _ _ _ (@a66 _ _ _ _ _ (@a00 _ _ _ _ _ (pv 3) (@a00 _ _ _ _ _ (pv 6) (@a00 _ _ _ _ _ (pv 7) (@a01 _) (by rfl)) (by rfl)) (by rfl)))))))))))))),?_⟩
   have sl:(1000000:Nat)≤sizeLine:=le_line (Nat.le_refl _)
   generalize hTB:(tSeq (tAsg _ (gName 11)) _:TS)=TB
   revert hTB
   revert TB
   refine keepE ?_
   intro TB hTB
   generalize hTA:(tSeq (tAsg _ (gName 10)) _:TS)=TA
   revert hTA
   revert TA
   refine keepE ?_
   intro TA hTA
   generalize hTL:(tFor _ _ _:TS)=TL
   revert hTL
   revert TL
   refine keepE ?_
   intro TL hTL
   generalize hTM:(tSeqC _ _:TS)=TM
   revert hTM
   revert TM
   refine keepE ?_
   intro TM hTM
   generalize hTK:(tSeq (tAsg _ (gName 5)) _:TS)=TK
   revert hTK
   revert TK
   refine keepE ?_
   intro TK hTK
   walk_at "go"
   refine cb9 hS ?_
   walk_at "r"
   have z0:=Int.emod_nonneg ns.sum (show (2:Int)≠0 by decide)
   have z1:=Int.emod_lt_of_pos ns.sum (show (0:Int)<2 by decide)
   generalize ns.sum % 2=z at z0 z1
   refine ⟨a0,ns,0,z,rfl,hS,by decide,z0,by omega,fun zc HA sA=>?_⟩
   walk_at "r"
   intro pf HB fB sB eB
   walk_at "r"
   have kB:StA HB pf z:=⟨zc,eB⟩
   have fpf:H pf=none:=sA.free fB
   refine ⟨pf,z,rfl,kB,fun es pe us H1 f1 e1 hu hnd hel hep o1 k1=>?_⟩
   walk_at "r"
   have ul:us.length=es.length:=by rw [hu.len,gL]
   have pe1:pe≠pf:=kB.ne f1
   refine ⟨pf,z,8,rfl,k1,by decide,by decide,fun r8 H2 hr8 o2 k2=>?_⟩
   walk_at "r"
   subst hTK
   walk_at "r"
   intro pk H3 f3 s3 e3
   walk_at "r"
   have pk1:pk≠pf:=k2.ne f3
   refine ⟨pf,z,3,rfl,k2.same s3,by decide,by decide,fun r3 H4 hr3 o4 k4=>?_⟩
   walk_at "r"
   obtain ⟨kv,hkv,hkor⟩:=of3 (a:=.int 8) (b:=.int 3) (c:=.int 2) hr3
   refine a93 (SqL.of (o4 _ _ pk1 e3)) hkv ?_
   walk_at "r"
   obtain ⟨kk,rfl,hk0,hk8⟩:∃ kk:Nat,kv=.int (kk:Nat)∧0<kk∧kk≤8:=by
    rcases hkor with rfl | rfl | rfl
    · exact ⟨8,rfl,by decide,by decide⟩
    · exact ⟨3,rfl,by decide,by decide⟩
    · exact ⟨2,rfl,by decide,by decide⟩
   refine ⟨pf,z,8,rfl,k4,by decide,by decide,fun pb sy H5 o5 k5 f5 e5 hsy=>?_⟩
   have pb1:pb≠pf:=k4.ne f5
   have o15:Oth pf H1 H5:=o2.trans ((ad9 s3).trans (o4.trans o5))
   have e15:=o15 _ _ pe1 e1
   have hu5:=ad4 hu (o15.tups k1)
   have s05:Same H H5:=(o1.trans o15).new (sA.trans sB) fpf
   clear hkor hkv e3 f3 s3 o4 o5 o2 o15 f1 e1 hu k1 k2 k4 o1 pk1 f5
   walk_at "r"
   subst hTM
   refine bu0 (fun σ' H'=>∃ N:Nat,0<N∧N≤60∧σ'=[some (.ref a0),some (.int z),some (.ref pf),some (.ref pe),some (.int (N:Nat)),some (.int (kk:Nat)),some (.ref pb),none,none,none,none,none]∧Oth pf H5 H'∧StA H' pf z) ?_ ?_
   · walk_at "r"
     refine ⟨pf,z,16,rfl,k5,by decide,by decide,fun r16 H6 hr16 o6 k6=>?_⟩
     walk_at "r"
     refine ite2 (fun hc=>?_) (fun hc=>?_)
     · walk_at "r"
       refine ⟨pf,z,60,rfl,k6,by decide,by decide,fun r60 H7 hr60 o7 k7=>?_⟩
       walk_at "r"
       exact ⟨1+r60,by omega,by omega,by rw [show ((1+r60:Nat):Int)=1+(r60:Int) by omega],o6.trans o7,k7⟩
     · walk_at "r"
       exact ⟨1+r8,by omega,by omega,by rw [show ((1+r8:Nat):Int)=1+(r8:Int) by omega],o6,k6⟩
   rintro σ' H6 ⟨N,hN0,hN60,rfl,o6,k6⟩
   walk_at "r"
   have s06:Same H H6:=fun x o e=>o6 _ _ (a05 e fpf) (s05 _ _ e)
   have e16:=o6 _ _ pe1 e15
   have hu6:=ad4 hu5 (o6.tups k5)
   have e56:=o6 _ _ pb1 e5
   clear o6 k6 e15 hu5 e5 s05 k5
   intro pc H7 f7 s7 e7
   walk_at "r"
   subst hTL
   walk_at "r"
   rw [Int.toNat_natCast]
   have e17:=s7 _ _ e16
   have hcpe:pe≠pc:=a05 e16 f7
   have hcpb:pb≠pc:=a05 e56 f7
   have hu7:=hu6.same s7
   have s07:=s06.trans s7
   obtain ⟨Pv,hPv⟩:∃ Pv:Nat→St→Hp→Prop,Pv=(fun i σ H'=>i≤N∧∃ (rs:List a60) (acc:List V) (gs:List Addr),H' pc=some (.lst acc)∧Tw.Ats H' (rs.map roomW) acc gs∧rs.length=i∧(∀ q∈rs,RowsOk es N q.2)∧(∀ x∈gs,H7 x=none)∧(∀ x o,x≠pc→H7 x=some o→H' x=some o)∧∃ y1 y2 y3 y4,σ=[some (.ref a0),some (.int z),some (.ref pf),some (.ref pe),some (.int (N:Nat)),some (.int (kk:Nat)),some (.ref pb),some (.ref pc),y1,y2,y3,y4]):=⟨_,rfl⟩
   refine bb8 (lo:=0) (n:=N) Pv (by rw [hPv]; exact ⟨Nat.zero_le _,[],[],[],e7,by simp [Tw.Ats],rfl,by simp,by simp,fun x o _ e=>e,_,_,_,_,rfl⟩) ?_ ?_
   · intro i σ H8 hi hI
     rw [hPv] at hI
     obtain ⟨hi2,rs,acc,gs,hc8,hat8,hrl,hro,hgs,kp8,y1,y2,y3,y4,rfl⟩:=hI
     rw [Int.zero_add]
     have e18:=kp8 _ _ hcpe e17
     have s68:Same H6 H8:=fun x o e=>kp8 _ _ (a05 e f7) (s7 _ _ e)
     have gsc:∀ x∈gs,x≠pc:=fun x hx z=>by have:=hgs x hx; rw [z,e7] at this; cases this
     have al:acc.length=i:=by rw [hat8.len,gL,hrl]
     have fr8:∀ {x:Addr},H8 x=none→H7 x=none:=fun {x} z=>by
      have z3:x≠pc:=fun q=>by rw [q,hc8] at z; cases z
      cases e:H7 x with
      | none=>rfl
      | some o=>rw [kp8 x o z3 e] at z; cases z
     have fin:∀ (b:Bool) (rows:List Row) (v:V) (fs2:List Addr) (He:Hp),(roomW (b,rows)).At He v fs2→(∀ x∈fs2,H8 x=none)→Same H8 He→RowsOk es N rows →
      He pc=some (.lst acc)∧(i+1≤N∧∃ (rs:List a60) (acc2:List V) (gs:List Addr),upd He pc (.lst (acc++[v])) pc=some (.lst acc2)∧Tw.Ats (upd He pc (.lst (acc++[v]))) (rs.map roomW) acc2 gs∧rs.length=i+1∧(∀ q∈rs,RowsOk es N q.2)∧(∀ x∈gs,H7 x=none)∧(∀ x o,x≠pc→H7 x=some o→upd He pc (.lst (acc++[v])) x=some o)):=by
      intro b rows v fs2 He hv hf sE hro'
      have hcE:=sE _ _ hc8
      have fsc:∀ x∈fs2,x≠pc:=fun x hx z=>by have:=hf x hx; rw [z,hc8] at this; cases this
      have tE:Tups He (upd He pc (.lst (acc++[v]))):=Tups.upd hcE
      refine ⟨hcE,hi,rs++[(b,rows)],acc++[v],gs++fs2,a41,?_,by simp [hrl],?_,?_,fun x o c e=>by rw [a09 c]; exact sE _ _ (kp8 x o c e)⟩
      · rw [List.map_append]
        refine Tw.Ats.snoc ((hat8.same sE).mono ⟨tE,fun a ha xs e=>by rw [a09 (gsc a ha)]; exact e⟩) (hv.mono ⟨tE,fun a ha xs e=>by rw [a09 (fsc a ha)]; exact e⟩)
      · intro q hq
        rcases gA hq with hq | hq
        · exact hro q hq
        · rw [gG hq]; exact hro'
      · intro x hx
        rcases gA hx with hx | hx
        · exact hgs x hx
        · exact fr8 (hf x hx)
     walk_at "r"
     rw [show (1:Int)+(i:Nat)=((1+i:Nat):Int) by omega]
     refine ⟨a0,ns,1+i,z,rfl,(s06.trans s68).seq hS,by omega,z0,by omega,fun zc2 H9 s9=>?_⟩
     walk_at "r"
     intro st H10 f10 s10 e10
     walk_at "r"
     have k10:StA H10 st z:=⟨zc2,e10⟩
     have s810:=s9.trans s10
     have fst:H8 st=none:=s9.free f10
     have pes:pe≠st:=a05 e18 fst
     refine ⟨st,z,8,rfl,k10,by decide,by decide,fun r8 H11 hr8 o11 k11=>?_⟩
     walk_at "r"
     have s811:Same H8 H11:=o11.new s810 fst
     have e111:=s811 _ _ e18
     have hc11:=s811 _ _ hc8
     refine ite2 (fun h0=>?_) (fun h0=>?_)
     · walk_at "r"
       refine aj4 (SqL.of hc11) ?_
       walk_at "r"
       refine ⟨⟨_,SqL.of e111⟩,ae6 (xs:=us) (by omega) (fun j acc H'=>j≤es.length∧acc.length=j∧Same H11 H'∧∃ fs,Tw.Ats H' ((List.replicate j (([],i):Row)).map rowW) acc fs∧∀ x∈fs,H8 x=none) ⟨Nat.zero_le _,rfl,Same.refl _,[],by simp [Tw.Ats],by simp⟩ (fun j acc H' ⟨_,e,s',_⟩=>⟨by omega,SqL.of (s' _ _ e111)⟩) ?_ ?_⟩
       · rintro j x acc3 H' hx ⟨hj,ea,s',fs,hat,hfs⟩
         have hj':j<us.length:=(gS hx).1
         walk_at "r"
         intro p7 H12 f12 s12 e12
         walk_at "r"
         intro p8 H13 f13 s13 e13
         refine ⟨by omega,by simp [ea],s'.trans (s12.trans s13),fs++[p7],?_,?_⟩
         · rw [List.replicate_succ',List.map_append]
           exact (hat.same (s12.trans s13)).snoc (row_w.mpr ⟨p8,p7,rfl,e13,s13 _ _ e12,rfl⟩)
         · intro x hx
           rcases gA hx with hx | hx
           · exact hfs x hx
           · rw [gG hx]; exact s811.free (s'.free f12)
       · rintro acc3 H12 ⟨_,ea,s12,fs,hat,hfs⟩ p8 H13 f13 s13 e13
         rw [ul] at hat
         walk_at "r"
         intro p9 H14 f14 s14 e14
         walk_at "r"
         have s1114:=s12.trans (s13.trans s14)
         obtain ⟨g1,g2⟩:=fin true (List.replicate es.length ([],i)) (.ref p9) (p8::fs) H14 (room_w.mpr ⟨p9,p8,acc3,fs,rfl,e14,s14 _ _ e13,hat.same (s13.trans s14),rfl⟩) (fun x hx=>by
          rcases List.mem_cons.mp hx with rfl | hx
          · exact s811.free (s12.free f13)
          · exact hfs x hx) (s811.trans s1114) ⟨by simp,fun x hx=>by
          rw [(List.mem_replicate.mp hx).2]
          exact ⟨hi,by simp [SAID]⟩⟩
         refine ae4 g1 (by omega) ?_
         obtain ⟨x1,rs2,a2,gs2,x2,x3,x4,x5,x6,x7⟩:=g2
         rw [hPv]
         exact ⟨x1,rs2,a2,gs2,x2,x3,x4,x5,x6,x7,_,_,_,_,rfl⟩
     · walk_at "r"
       subst hTA
       walk_at "r"
       intro pw H12 f12 s12 e12
       walk_at "r"
       have pw1:pw≠st:=k11.ne f12
       refine ⟨st,z,3,rfl,k11.same s12,by decide,by decide,fun r3 H13 hr3 o13 k13=>?_⟩
       walk_at "r"
       obtain ⟨wv,hwv,hwor⟩:=of3 (a:=.int (N:Nat)) (b:=.int 1) (c:=.int 2) hr3
       refine a93 (SqL.of (o13 _ _ pw1 e12)) hwv ?_
       walk_at "r"
       obtain ⟨ww,rfl,hw0⟩:∃ ww:Nat,wv=.int (ww:Nat)∧0<ww:=by
        rcases hwor with rfl | rfl | rfl
        · exact ⟨N,rfl,hN0⟩
        · exact ⟨1,rfl,by decide⟩
        · exact ⟨2,rfl,by decide⟩
       subst hTB
       walk_at "r"
       have o1013:Oth st H10 H13:=o11.trans ((ad9 s12).trans o13)
       have e113:=o1013 _ _ pes (s810 _ _ e18)
       refine ⟨⟨_,SqL.of e113⟩,ae6 (xs:=us) (by omega) (fun j acc H'=>j≤es.length∧acc.length=j∧Oth st H10 H'∧∃ (rows:List Row) (fs:List Addr),rows.length=j∧(∀ x∈rows,x.2<N∧x.1∈SAID)∧Tw.Ats H' (rows.map rowW) acc fs∧(∀ x∈fs,H8 x=none∧x≠st)∧StA H' st z) ⟨Nat.zero_le _,rfl,o1013,[],[],rfl,by simp,by simp [Tw.Ats],by simp,k13⟩ (fun j acc H' ⟨_,e,o',_⟩=>⟨by omega,SqL.of (o' _ _ pes (s810 _ _ e18))⟩) ?_ ?_⟩
       · rintro j x acc3 H' hx ⟨hj,ea,o',rows,fs,hrw,hok,hat,hfs,k'⟩
         have hj':j<us.length:=(gS hx).1
         walk_at "r"
         refine ⟨st,z,kk,rfl,k',hk0,hk8,fun p7 ss H14 o14 k14 f14 e14 hss=>?_⟩
         walk_at "r"
         rw [show min ((ww:Nat):Int) ((N:Nat):Int)=((min ww N:Nat):Int) by omega]
         refine ⟨st,z,min ww N,rfl,k14,by omega,by omega,fun w8 H15 hw8 o15 k15=>?_⟩
         walk_at "r"
         intro p9 H16 f16 s16 e16
         have z1:=k'.ne f14
         have fsn:∀ x∈fs,x≠st:=fun x hx=>(hfs x hx).2
         refine ⟨by omega,by simp [ea],o'.trans (o14.trans (o15.trans (ad9 s16))),rows++[(ss,w8)],fs++[p7],by simp [hrw],?_,?_,?_,k15.same s16⟩
         · intro x hx
           rcases gA hx with hx | hx
           · exact hok x hx
           · rw [gG hx]; exact ⟨by show w8<N; omega,hss⟩
         · rw [List.map_append]
           refine Tw.Ats.snoc (hat.mono ((b65 o14 k' fsn).trans ((b65 o15 k14 fsn).trans (s16.keep _)))) (row_w.mpr ⟨p9,p7,rfl,e16,s16 _ _ (o15 _ _ z1 e14),rfl⟩)
         · intro x hx
           rcases gA hx with hx | hx
           · exact hfs x hx
           · rw [gG hx]; exact ⟨s810.free (o'.free k' f14),z1⟩
       · rintro acc3 H14 ⟨_,ea,o14,rows,fs,hrw,hok,hat,hfs,k14⟩ p8 H15 f15 s15 e15
         have s814:Same H8 H14:=o14.new s810 fst
         walk_at "r"
         refine aj4 (SqL.of ((s814.trans s15) _ _ hc8)) ?_
         walk_at "r"
         intro p9 H16 f16 s16 e16
         walk_at "r"
         obtain ⟨g1,g2⟩:=fin false rows (.ref p9) (p8::fs) H16 (room_w.mpr ⟨p9,p8,acc3,fs,rfl,e16,s16 _ _ e15,hat.same (s15.trans s16),rfl⟩) (fun x hx=>by
          rcases List.mem_cons.mp hx with rfl | hx
          · exact s814.free f15
          · exact (hfs x hx).1) (s814.trans (s15.trans s16)) ⟨by omega,hok⟩
         refine ae4 g1 (by omega) ?_
         obtain ⟨x1,rs2,a2,gs2,x2,x3,x4,x5,x6,x7⟩:=g2
         rw [hPv]
         exact ⟨x1,rs2,a2,gs2,x2,x3,x4,x5,x6,x7,_,_,_,_,rfl⟩
   · intro σ H8 hI
     rw [hPv] at hI
     obtain ⟨hi2,rs,acc,gs,hc8,hat8,hrl,hro,hgs,kp8,y1,y2,y3,y4,rfl⟩:=hI
     walk_at "r"
     intro pt H9 f9 s9 e9
     have kpA:∀ x o,x≠pc→H7 x=some o→H9 x=some o:=fun x o c e=>s9 _ _ (kp8 x o c e)
     have t79:Tups H7 H9:=fun b ys e=>kpA b _ (ag4 e e7 (fun z=>nomatch z)) e
     have s69:Same H6 H9:=fun x o e=>kpA x o (a05 e f7) (s7 _ _ e)
     have hsd:∀ s∈sayL sy rs,s∈SAID:=fun s hs=>by
      rcases List.mem_cons.mp hs with rfl | hs
      · exact hsy
      · obtain ⟨r,hr,hx⟩:=List.mem_flatMap.mp hs
        obtain ⟨x,hx2,rfl⟩:=List.mem_map.mp hx
        exact ((hro r hr).2 x hx2).2
     refine q _ pe pb pc es sy rs gs H9 (s06.trans s69) ⟨pt,us,acc,rfl,e9,kpA _ _ hcpe e17,ad4 hu7 t79,s69 _ _ e56,s9 _ _ hc8,hat8.same s9⟩ ⟨⟨by omega,b64 _ hsy,by omega,fun r0 hr0=>⟨(hro r0 hr0).1,fun x hx=>?_⟩⟩,hnd,hep,by omega,hsd⟩
     obtain ⟨h1,h2⟩:=(hro r0 hr0).2 x hx
     exact ⟨by omega,b64 _ h2⟩
namespace Y
def c08 (K:PySem.W.Frag):Sp:=fun vs H Q _=>∃ (v:V) (n:Addr) (m:Nat) (r:a60) (fs:List Addr),vs=[v,.ref n]∧(roomW r).At H v fs∧H n=some (.lst (natsV (List.range m)))∧(∀ x∈r.2,x.2<m)∧r.2.length≤1000∧(∀ x∈r.2,x.1.length≤1000) ∧
 ∀ v' fs' H',Same H H'→(roomW r).At H' v' fs'→(∀ a∈fs',H a=none)→Q v' H'
theorem ax4 (T:Txt K mg t):FnOk P w K mg base CX0 1 t.a_room_with t.fd_room_with ["room","numbers"] (c08 K):=by
 refine T.F_room_with.ok aw2 (fun vs H Q E h=>?_) (fun cdv A outer s H vs Q E hr h=>?_)
 · obtain ⟨v,n,m,r,fs,rfl,_⟩:=h
   rfl
 · obtain ⟨v,n,m,r,fs,rfl,hv,hn,hm,hl,hsl,q⟩:=h
   refine ⟨_,(@a06 _ _ _ (@a54 _ _ _ _ (@a66 _ _ _ _ _ (@a00 _ _ _ _ _ (@a44 _ _ _ _ _ _ _ (a08 K) (pv 0) (@a03 _ _ _ _) (fun _ _=>rfl)) (@a00 _ _ _ _ _ (ak4 (Nt:=["said","way"]) (Nf:=["numbers"]) (caps:=[1]) rfl (ab4 (sc:=defScope a92) rfl rfl (by decide +kernel) (by decide +kernel) (by decide +kernel) rfl (by decide +kernel)) (a69 K (@a44 _ _ _ _ _ _ _ (a08 K) (pv 0) (@a03 _ _ _ _) (fun _ _=>rfl))) (fun _ _ _ _ _=>(ae7 K (n:=2) rfl (a71 (a47 (i:=0) (show (["said","way","numbers"]:List Str).Nodup by decide +kernel) rfl (by walk_at "o")) (a71 (a47 (i:=1) (show (["said","way","numbers"]:List Str).Nodup by decide +kernel) rfl (by walk_at "o")) (@ae5 _))))) (fun _ _ _ _ _=>(@ab5 _)) (fun _ _ _ _ _=>(@a66 _ _ _ _ _ (@a00 _ _ _ _ _ (@a63 _ _ _ _ _ _ _ _ _ (ad0 K) (by rfl) T.z_list ac8 (@a00 _ _ _ _ _ (pv 0) (@a01 _) (by rfl)) (by decide) (by decide) (by rfl) (by rfl)) (@a00 _ _ _ _ _ (@a44 _ _ _ _ _ _ _ (a42 K) (pv 2) (pv 1) (fun _ _=>rfl)) (@a01 _) (by rfl)) (by rfl))))) (@a01 _) (by rfl)) (by rfl))))),?_⟩
   obtain ⟨b,g,ps,gs,rfl,hb,hg,hps,rfl⟩:=room_w.mp hv
   have pl:ps.length=r.2.length:=by rw [hps.len,List.length_map]
   walk_at "go"
   refine a65 (SqT.of hb) (a04 (j:=0) rfl) ?_
   walk_at "r"
   refine a65 (SqT.of hb) (a04 (j:=1) rfl) ?_
   walk_at "r"
   refine ⟨⟨_,SqL.of hg⟩,ar9 (xs:=ps) (le_line (by omega)) (fun i acc H'=>i≤r.2.length∧acc.length=i∧Same H H'∧∃ fs',Tw.Ats H' ((r.2.take i).map rowW) acc fs'∧∀ a∈fs',H a=none) ⟨Nat.zero_le _,rfl,Same.refl _,[],by simp [Tw.Ats],by simp⟩ (fun i acc H' ⟨_,e,s',_⟩=>⟨by omega,SqL.of (s' _ _ hg)⟩) ?_ ?_⟩
   · rintro i x acc H' hx ⟨hi,ea,s',fs',hat,hfr⟩
     obtain ⟨tx,fx,hx1,hx2,_⟩:=(hps.same s').get i x hx
     rw [List.getElem?_map] at hx1
     obtain ⟨w0,hw,rfl⟩:=Option.map_eq_some_iff.mp hx1
     obtain ⟨k,sl,rfl,hk,hsl',rfl⟩:=row_w.mp hx2
     have hi':i<r.2.length:=(List.getElem?_eq_some_iff.mp hw).1
     have hwm:=hm w0 (List.mem_of_getElem? hw)
     refine ⟨k,_,_,rfl,SqT.of hk,?_⟩
     walk_at "r"
     refine ae8 (SqL.of hsl') ?_
     intro p1 H1 f1 s1 e1
     walk_at "r"
     refine a93 (SqL.of ((s'.trans s1) _ _ hn)) (bo0 (by simpa using hwm)) ?_
     rw [show (List.range m).getD w0.2 0=w0.2 by simp [hwm]]
     walk_at "r"
     intro p2 H2 f2 s2 e2
     refine ⟨hi',by simp [ea],s'.trans (s1.trans s2),fs'++[p1],?_,?_⟩
     · rw [List.take_add_one,hw,List.map_append]
       exact (hat.same (s1.trans s2)).snoc (row_w.mpr ⟨p2,p1,rfl,e2,s2 _ _ e1,rfl⟩)
     · intro a ha
       rcases List.mem_append.mp ha with ha | ha
       · exact hfr a ha
       · rw [List.mem_singleton.mp ha]; exact s'.free f1
   · rintro acc H' ⟨_,ea,s',fs',hat,hfr⟩ p1 H1 f1 s1 e1
     rw [pl,List.take_length] at hat
     walk_at "r"
     intro p2 H2 f2 s2 e2
     refine q _ (p1::fs') H2 (s'.trans (s1.trans s2)) (room_w.mpr ⟨p2,p1,acc,fs',rfl,e2,s2 _ _ e1,hat.same (s1.trans s2),rfl⟩) ?_
     intro a ha
     rcases List.mem_cons.mp ha with rfl | ha
     · exact s'.free f1
     · exact hfr a ha
def mf (d s c:Addr):List (Str×V):=putF "rooms" (.ref c) (putF "saying" (.ref s) (putF "places" (.ref d) []))
theorem bk1 (d s c:Addr):(mf d s c).lookup ("places":Str)=some (.ref d):=by
 unfold mf
 rw [a07,if_neg (by decide +kernel),a07,if_neg (by decide +kernel),a07,if_pos rfl]
theorem bk2 (d s c:Addr):(mf d s c).lookup ("saying":Str)=some (.ref s):=by
 unfold mf
 rw [a07,if_neg (by decide +kernel),a07,if_pos rfl]
theorem b66 (d s c:Addr):(mf d s c).lookup ("rooms":Str)=some (.ref c):=by
 unfold mf
 rw [a07,if_pos rfl]
theorem mf_no (d s c:Addr) {m:Str}(h1:¬ m="rooms") (h2:¬ m="saying") (h3:¬ m="places"):(mf d s c).lookup m=none:=by
 unfold mf
 rw [a07,if_neg h1,a07,if_neg h2,a07,if_neg h3]
 all_goals rfl
structure MAt (P:Params) (C:Addr) (H:Hp) (p d s c:Addr) (es:List Ev) (sy:List Str) (rs:List a60) (gs:List Addr):Prop where
 ex:∃ dx rvs,H p=some (.ins C dx (mf d s c))∧DtAt P H d (plc es 0 [])∧H s=some (.lst (strsV sy))∧H c=some (.lst rvs)∧Tw.Ats H (rs.map roomW) rvs gs
def sp_init (K:PySem.W.Frag) (P:Params) (C:Addr):Sp:=fun vs H Q _=>∃ (p dx:Addr) (v:V) (a b c:Addr) (es:List Ev) (sy:List Str) (rs:List a60) (gs:List Addr),vs=[.ref p,v]∧H p=some (.ins C dx [])∧TabAt H v a b c es sy rs gs∧TabOk es sy rs ∧
 ∀ d s c' gs' H',MAt P C H' p d s c' es sy rs gs'→H d=none→H s=none→H c'=none→(∀ x∈gs',H x=none)→(∀ x o,H x=some o→x≠p→H' x=some o)→Q .non H'
theorem ac1 (T:Txt K mg t):FnOk P w K mg base CX0 2 t.a_TableMachine___init__ t.fd_TableMachine___init__ ["self","table"] (sp_init K w.params t.c_TableMachine):=by
 have G_places_by:=al4 (P:=P) (w:=w) (base:=base) T
 have G_room_with:=ax4 (P:=P) (w:=w) (base:=base) T
 refine T.F_TableMachine___init__.ok sc_TableMachine___init__ (fun vs H Q E h=>?_) (fun cdv A outer s H vs Q E hr h=>?_)
 · obtain ⟨p,dx,v,a,b,c,es,sy,rs,gs,rfl,_⟩:=h
   rfl
 · obtain ⟨p,dx,v,a,b,c,es,sy,rs,gs,rfl,hp,hT,ok,q⟩:=h
   refine ⟨_,(@a02 _ _ _ _ _ (ah2 K (pv 0) (@a40 _ _ _ _ _ _ _ _ _ _ _ _ _ _ _ _ G_places_by (hr.mono (by omega)) rfl T.m_places_by T.F_places_by.kp T.b_places_by .nil a55 (@a00 _ _ _ _ _ (@a44 _ _ _ _ _ _ _ (a08 K) (pv 1) (@a03 _ _ _ _) (fun _ _=>rfl)) (@a01 _) (by rfl)) (by decide) (by rfl) (by rfl)) rfl)
    (@a02 _ _ _ _ _ (ah2 K (pv 0) (@a63 _ _ _ _ _ _ _ _ _ (ad0 K) (by rfl) T.z_list ac8 (@a00 _ _ _ _ _ (@a44 _ _ _ _ _ _ _ (a08 K) (pv 1) (@a03 _ _ _ _) (fun _ _=>rfl)) (@a01 _) (by rfl)) (by decide) (by decide) (by rfl) (by rfl)) rfl)
    (@a02 _ _ _ _ _ (@a45 _ _ 2 _ _ _ _ sc_TableMachine___init__.nd rfl (by walk_at "o") (@a63 _ _ _ _ _ _ _ _ _ (bp1 rfl) (by rfl) T.z_list ac8 (@a00 _ _ _ _ _ (@a63 _ _ _ _ _ _ _ _ _ bg0 (by rfl) T.z_range bn6 (@a00 _ _ _ _ _ (@a59 _ _ _ _ _ _ _ _ _ (aa6 K) (by rfl) T.z_len ab9 (@a00 _ _ _ _ _ (@a44 _ _ _ _ _ _ _ (a08 K) (pv 1) (@a03 _ _ _ _) (fun _ _=>rfl)) (@a01 _) (by rfl)) (by decide) (by decide) (by rfl) (by rfl)) (@a01 _) (by rfl)) (by decide) (by decide) (by rfl) (by rfl)) (@a01 _) (by rfl)) (by decide) (by decide) (by rfl) (by rfl)) (by rfl) (by walk_at "o"))
    (@a06 _ _ _ (ah2 K (pv 0) (ak4 (Nt:=["room"]) (Nf:=["same"]) (caps:=[2]) rfl (ab4 (sc:=defScope a43) rfl rfl (by decide +kernel) (by decide +kernel) (by decide +kernel) rfl (by decide +kernel)) (a69 K (@a44 _ _ _ _ _ _ _ (a08 K) (pv 1) (@a03 _ _ _ _) (fun _ _=>rfl))) (fun _ _ _ _ _=>(a47 (i:=0) (show (["room","same"]:List Str).Nodup by decide +kernel) rfl (by walk_at "o"))) (fun _ _ _ _ _=>(@ab5 _)) (fun _ _ _ _ _=>(@a40 _ _ _ _ _ _ _ _ _ _ _ _ _ _ _ _ G_room_with (hr.mono (by omega)) rfl T.m_room_with T.F_room_with.kp T.b_room_with .nil a55 (@a00 _ _ _ _ _ (pv 0) (@a00 _ _ _ _ _ (pv 1) (@a01 _) (by rfl)) (by rfl)) (by decide) (by rfl) (by rfl)))) rfl))))),?_⟩
   obtain ⟨tt,us,rvs,rfl,h1,h2,h3,h4,h5,h6⟩:=hT.ex
   have rl:rvs.length=rs.length:=by rw [h6.len,List.length_map]
   have o1:=ok.ne
   have o2:=ok.ns
   have o3:=ok.nr
   walk_at "go"
   refine a65 (SqT.of h1) (a04 (j:=0) rfl) ?_
   walk_at "r"
   refine ⟨a,us,es,rfl,h2,h3,by omega,fun d H1 f1 s1 d1=>?_⟩
   walk_at "r"
   refine ⟨p,_,dx,_,rfl,s1 _ _ hp,T.cl_TableMachine,T.n_TableMachine_places,by decide,?_⟩
   have np:∀ {x:Addr}{o:HO},H x=some o→(∀ C dx fs,o≠.ins C dx fs)→x≠p:=fun e z=>ag4 e hp (z _ _ _)
   have kP2:∀ x o,x≠p→H x=some o→upd H1 p (.ins t.c_TableMachine dx (putF "places" (.ref d) [])) x=some o:=fun x o z e=>by rw [a09 z]; exact s1 _ _ e
   have e2:upd H1 p (.ins t.c_TableMachine dx (putF "places" (.ref d) [])) p=some (.ins t.c_TableMachine dx (putF "places" (.ref d) [])):=a41
   have hdp:d≠p:=(a05 hp f1).symm
   have d2:DtAt w.params (upd H1 p (.ins t.c_TableMachine dx (putF "places" (.ref d) []))) d (plc es 0 []):=d1.mono (ac5 (s1 _ _ hp)) (a09 hdp)
   generalize upd H1 p (.ins t.c_TableMachine dx (putF "places" (.ref d) []))=H2 at kP2 e2 d2
   walk_at "r"
   refine a65 (SqT.of (kP2 _ _ (np h1 (fun _ _ _ z=>nomatch z)) h1)) (a04 (j:=1) rfl) ?_
   walk_at "r"
   refine ae8 (SqL.of (kP2 _ _ (np h4 (fun _ _ _ z=>nomatch z)) h4)) ?_
   intro ps H3 f3 s3 e3
   walk_at "r"
   have hsp:ps≠p:=(a05 e2 f3).symm
   refine ⟨p,_,dx,_,rfl,s3 _ _ e2,T.cl_TableMachine,T.n_TableMachine_saying,(by have h1:=a95 "places" (V.ref d) []; rw [List.length_nil] at h1; omega),?_⟩
   have kP4:∀ x o,x≠p→H2 x=some o→upd H3 p (.ins t.c_TableMachine dx (putF "saying" (.ref ps) (putF "places" (.ref d) []))) x=some o:=fun x o z e=>by rw [a09 z]; exact s3 _ _ e
   have e4:upd H3 p (.ins t.c_TableMachine dx (putF "saying" (.ref ps) (putF "places" (.ref d) []))) p=some (.ins t.c_TableMachine dx (putF "saying" (.ref ps) (putF "places" (.ref d) []))):=a41
   have e34:upd H3 p (.ins t.c_TableMachine dx (putF "saying" (.ref ps) (putF "places" (.ref d) []))) ps=some (.lst (strsV sy)):=by rw [a09 hsp]; exact e3
   have d4:DtAt w.params (upd H3 p (.ins t.c_TableMachine dx (putF "saying" (.ref ps) (putF "places" (.ref d) [])))) d (plc es 0 []):=(a64 d2 s3).mono (ac5 (s3 _ _ e2)) (a09 hdp)
   have t4:Tups H2 (upd H3 p (.ins t.c_TableMachine dx (putF "saying" (.ref ps) (putF "places" (.ref d) [])))):=s3.tups.trans (ac5 (s3 _ _ e2))
   generalize upd H3 p (.ins t.c_TableMachine dx (putF "saying" (.ref ps) (putF "places" (.ref d) [])))=H4 at kP4 e4 e34 d4 t4
   have kP:∀ x o,x≠p→H x=some o→H4 x=some o:=fun x o z e=>kP4 x o z (kP2 x o z e)
   have h14:=kP _ _ (np h1 (fun _ _ _ z=>nomatch z)) h1
   have h54:=kP _ _ (np h5 (fun _ _ _ z=>nomatch z)) h5
   have k4:Keep gs H H4:=⟨fun b ys e=>kP _ _ (np e (fun _ _ _ z=>nomatch z)) e,fun a _ xs e=>kP _ _ (np e (fun _ _ _ z=>nomatch z)) e⟩
   have h64:=h6.mono k4
   walk_at "r"
   refine a65 (SqT.of h14) (a04 (j:=2) rfl) ?_
   walk_at "r"
   refine ad3 (SqL.of h54) ?_
   rw [rl]
   walk_at "r"
   refine bp3 (by omega) ?_
   intro pg H5 f5 s5 e5
   walk_at "r"
   refine by8 e5 (by omega) ?_
   intro pn H6 f6 s6 e6
   walk_at "r"
   have s46:=s5.trans s6
   refine a65 (SqT.of (s46 _ _ h14)) (a04 (j:=2) rfl) ?_
   walk_at "r"
   refine ⟨⟨_,SqL.of (s46 _ _ h54)⟩,ae6 (xs:=rvs) (le_line (by omega)) (fun i acc H'=>i≤rs.length∧acc.length=i∧Same H6 H'∧∃ fs',Tw.Ats H' ((rs.take i).map roomW) acc fs'∧∀ a∈fs',H6 a=none) ⟨Nat.zero_le _,rfl,Same.refl _,[],by simp [Tw.Ats],by simp⟩ (fun i acc H' ⟨_,e,s',_⟩=>⟨by omega,SqL.of ((s46.trans s') _ _ h54)⟩) ?_ ?_⟩
   · rintro i x acc H' hx ⟨hi,ea,s',fs',hat,hfr⟩
     obtain ⟨tx,fx,hx1,hx2,_⟩:=(h64.same (s46.trans s')).get i x hx
     rw [List.getElem?_map] at hx1
     obtain ⟨w0,hw,rfl⟩:=Option.map_eq_some_iff.mp hx1
     have hi':i<rs.length:=(List.getElem?_eq_some_iff.mp hw).1
     obtain ⟨k1,k2⟩:=ok.ok w0 (List.mem_of_getElem? hw)
     walk_at "r"
     refine ⟨x,pn,rs.length,w0,fx,rfl,hx2,s' _ _ e6,fun z hz=>(k2 z hz).1,by omega,fun z hz=>by have:=(k2 z hz).2; omega,fun v' fs2 H7 s7 hv7 hf7=>?_⟩
     refine ⟨hi',by simp [ea],s'.trans s7,fs'++fs2,?_,?_⟩
     · rw [List.take_add_one,hw,List.map_append]
       exact (hat.same s7).snoc hv7
     · intro a ha
       rcases List.mem_append.mp ha with ha | ha
       · exact hfr a ha
       · exact s'.free (hf7 a ha)
   · rintro acc H' ⟨_,ea,s',fs',hat,hfr⟩ pc H8 f8 s8 e8
     rw [rl,List.take_length] at hat
     walk_at "r"
     have s48:=s46.trans (s'.trans s8)
     have e48:=s48 _ _ e4
     have hcp:pc≠p:=(a05 e4 ((s46.trans s').free f8)).symm
     refine ⟨p,_,dx,_,rfl,e48,T.cl_TableMachine,T.n_TableMachine_rooms,(by have h1:=a95 "places" (V.ref d) []; have h2:=a95 "saying" (V.ref ps) (putF "places" (V.ref d) []); rw [List.length_nil] at h1; omega),?_⟩
     walk_at "r"
     have tF:Tups H8 (upd H8 p (.ins t.c_TableMachine dx (mf d ps pc))):=ac5 e48
     have frH:∀ {x:Addr},H4 x=none→x≠p→H x=none:=fun {x} z zp=>by
      cases e:H x with
      | none=>rfl
      | some o=>rw [kP x o zp e] at z; cases z
     have nfs:∀ x∈fs',x≠p:=fun x hx z=>by
      have:=s46.free (hfr x hx)
      rw [z,e4] at this
      cases this
     refine q d ps pc fs' _ ⟨dx,acc,a41,(a64 d4 s48).mono tF (a09 hdp),by rw [a09 hsp]; exact s48 _ _ e34,by rw [a09 hcp]; exact e8,(hat.same s8).mono ⟨tF,fun a ha xs e=>by rw [a09 (nfs a ha)]; exact e⟩⟩ f1 ?_ (frH ((s46.trans s').free f8) hcp) (fun x hx=>frH (s46.free (hfr x hx)) (nfs x hx)) fun x o e z=>by rw [a09 z]; exact s48 _ _ (kP x o z e)
     cases e:H ps with
     | none=>rfl
     | some o=>rw [kP2 ps o hsp e] at f3; cases f3
def sp_begin (K:PySem.W.Frag) (P:Params) (C:Addr):Sp:=fun vs H Q _=>∃ (p d s c:Addr) (es:List Ev) (sy:List Str) (rs:List a60) (gs:List Addr),vs=[.ref p]∧MAt P C H p d s c es sy rs gs ∧
 ∀ k l H',H l=none→Same H H'→H' k=some (.tup [.ref l,.int 0])→H' l=some (.lst (strsV sy))→Q (.ref k) H'
theorem a67 (T:Txt K mg t):FnOk P w K mg base CX0 1 t.a_TableMachine_begin t.fd_TableMachine_begin ["self"] (sp_begin K w.params t.c_TableMachine):=by
 refine T.F_TableMachine_begin.ok ah3 (fun vs H Q E h=>?_) (fun cdv A outer s H vs Q E hr h=>?_)
 · obtain ⟨p,d,s',c,es,sy,rs,gs,rfl,_⟩:=h
   rfl
 · obtain ⟨p,d,s',c,es,sy,rs,gs,rfl,hM,q⟩:=h
   refine ⟨_,(@a06 _ _ _ (@a54 _ _ _ _ (@a66 _ _ _ _ _ (@a00 _ _ _ _ _ (@a63 _ _ _ _ _ _ _ _ _ (ad0 K) (by rfl) T.z_list ac8 (@a00 _ _ _ _ _ (a99 K (pv 0) rfl) (@a01 _) (by rfl)) (by decide) (by decide) (by rfl) (by rfl)) (@a00 _ _ _ _ _ (@a03 _ _ _ _) (@a01 _) (by rfl)) (by rfl))))),?_⟩
   obtain ⟨dx,rvs,h1,h2,h3,h4,h5⟩:=hM.ex
   walk_at "go"
   refine ⟨p,_,dx,_,_,rfl,h1,T.cl_TableMachine,T.n_TableMachine_saying,bk2 _ _ _,?_⟩
   walk_at "r"
   refine ae8 (SqL.of h3) ?_
   intro l H1 f1 s1 e1
   walk_at "r"
   intro k H2 f2 s2 e2
   exact q k l H2 f1 (s1.trans s2) e2 (s2 _ _ e1)
def sp_step (K:PySem.W.Frag) (P:Params) (C:Addr):Sp:=fun vs H Q _=>∃ (p d s c:Addr) (es:List Ev) (sy:List Str) (rs:List a60) (gs:List Addr) (n j:Nat) (v:V) (e:Ev) (r:a60) (x:Row),vs=[.ref p,.int (n:Nat),v]∧MAt P C H p d s c es sy rs gs∧e.tr.At H v [] ∧
 plOf es e=some (.int (j:Nat))∧rs[n]?=some r∧r.2[j]?=some x∧∀ k l H',H l=none→Same H H'→H' k=some (.tup [.ref l,.int (x.2:Nat)])→H' l=some (.lst (strsV x.1))→Q (.ref k) H'
theorem a70 (T:Txt K mg t):FnOk P w K mg base CX0 2 t.a_TableMachine_step t.fd_TableMachine_step ["self","standing","event"] (sp_step K w.params t.c_TableMachine):=by
 have G_place_of:=ao2 (P:=P) (w:=w) (base:=base) T
 refine T.F_TableMachine_step.ok sc_TableMachine_step (fun vs H Q E h=>?_) (fun cdv A outer s H vs Q E hr h=>?_)
 · obtain ⟨p,d,s',c,es,sy,rs,gs,n,j,v,e,r,x,rfl,_⟩:=h
   rfl
 · obtain ⟨p,d,s',c,es,sy,rs,gs,n,j,v,e,r,x,rfl,hM,hv,hj,hr1,hx,q⟩:=h
   refine ⟨_,(@a02 _ _ _ _ _ (@a45 _ _ 3 _ _ _ _ sc_TableMachine_step.nd rfl (by walk_at "o") (@a44 _ _ _ _ _ _ _ (a42 K) (@a44 _ _ _ _ _ _ _ (a08 K) (@a44 _ _ _ _ _ _ _ (a42 K) (a99 K (pv 0) rfl) (pv 1) (fun _ _=>rfl)) (@a03 _ _ _ _) (fun _ _=>rfl)) (@a40 _ _ _ _ _ _ _ _ _ _ _ _ _ _ _ _ G_place_of (hr.mono (by omega)) rfl T.m_place_of T.F_place_of.kp T.b_place_of .nil a55 (@a00 _ _ _ _ _ (a99 K (pv 0) rfl) (@a00 _ _ _ _ _ (pv 2) (@a01 _) (by rfl)) (by rfl)) (by decide) (by rfl) (by rfl)) (fun _ _=>rfl)) (by rfl) (by walk_at "o"))
    (@a06 _ _ _ (@a54 _ _ _ _ (@a66 _ _ _ _ _ (@a00 _ _ _ _ _ (@a63 _ _ _ _ _ _ _ _ _ (ad0 K) (by rfl) T.z_list ac8 (@a00 _ _ _ _ _ (@a44 _ _ _ _ _ _ _ (a08 K) (pv 3) (@a03 _ _ _ _) (fun _ _=>rfl)) (@a01 _) (by rfl)) (by decide) (by decide) (by rfl) (by rfl)) (@a00 _ _ _ _ _ (@a44 _ _ _ _ _ _ _ (a08 K) (pv 3) (@a03 _ _ _ _) (fun _ _=>rfl)) (@a01 _) (by rfl)) (by rfl)))))),?_⟩
   obtain ⟨dx,rvs,h1,h2,h3,h4,h5⟩:=hM.ex
   have hn:n<rvs.length:=by
    rw [h5.len,List.length_map]
    exact (List.getElem?_eq_some_iff.mp hr1).1
   obtain ⟨tx,fx,hx1,hx2,_⟩:=h5.get n rvs[n] (List.getElem?_eq_getElem hn)
   rw [List.getElem?_map,hr1] at hx1
   cases hx1
   obtain ⟨q1,g,ps,gs1,hq0,hq1,hg,hps,rfl⟩:=room_w.mp hx2
   have hjl:j<ps.length:=by
    rw [hps.len,List.length_map]
    exact (List.getElem?_eq_some_iff.mp hx).1
   obtain ⟨tx,fx,hx1,hx3,_⟩:=hps.get j ps[j] (List.getElem?_eq_getElem hjl)
   rw [List.getElem?_map,hx] at hx1
   cases hx1
   obtain ⟨k0,sl,hk0,hk1,hsl,rfl⟩:=row_w.mp hx3
   walk_at "go"
   refine ⟨p,_,dx,_,_,rfl,h1,T.cl_TableMachine,T.n_TableMachine_rooms,b66 _ _ _,?_⟩
   walk_at "r"
   refine a93 (SqL.of h4) (a04 (j:=n) (v:=.ref q1) (by rw [List.getElem?_eq_getElem hn,hq0])) ?_
   walk_at "r"
   refine a65 (SqT.of hq1) (a04 (j:=1) rfl) ?_
   walk_at "r"
   refine ⟨p,_,dx,_,_,rfl,h1,T.cl_TableMachine,T.n_TableMachine_places,bk1 _ _ _,?_⟩
   walk_at "r"
   refine ⟨d,v,es,e,rfl,h2,hv,fun y hy=>?_⟩
   rw [hj] at hy
   cases hy
   refine a93 (SqL.of hg) (a04 (j:=j) (v:=.ref k0) (by rw [List.getElem?_eq_getElem hjl,hk0])) ?_
   walk_at "r"
   refine a65 (SqT.of hk1) (a04 (j:=0) rfl) ?_
   walk_at "r"
   refine ae8 (SqL.of hsl) ?_
   intro l H1 f1 s1 e1
   walk_at "r"
   refine a65 (SqT.of (s1 _ _ hk1)) (a04 (j:=1) rfl) ?_
   walk_at "r"
   intro k H2 f2 s2 e2
   exact q k l H2 f1 (s1.trans s2) e2 (s2 _ _ e1)
def sp_over (K:PySem.W.Frag) (P:Params) (C:Addr):Sp:=fun vs H Q _=>∃ (p d s c:Addr) (es:List Ev) (sy:List Str) (rs:List a60) (gs:List Addr) (n:Nat) (r:a60),vs=[.ref p,.int (n:Nat)]∧MAt P C H p d s c es sy rs gs∧rs[n]?=some r∧Q (.bl r.1) H
theorem a61 (T:Txt K mg t):FnOk P w K mg base CX0 1 t.a_TableMachine_over t.fd_TableMachine_over ["self","standing"] (sp_over K w.params t.c_TableMachine):=by
 refine T.F_TableMachine_over.ok ai3 (fun vs H Q E h=>?_) (fun cdv A outer s H vs Q E hr h=>?_)
 · obtain ⟨p,d,s',c,es,sy,rs,gs,n,r,rfl,_⟩:=h
   rfl
 · obtain ⟨p,d,s',c,es,sy,rs,gs,n,r,rfl,hM,hr1,q⟩:=h
   refine ⟨_,(@a06 _ _ _ (@a54 _ _ _ _ (@a44 _ _ _ _ _ _ _ (a08 K) (@a44 _ _ _ _ _ _ _ (a42 K) (a99 K (pv 0) rfl) (pv 1) (fun _ _=>rfl)) (@a03 _ _ _ _) (fun _ _=>rfl)))),?_⟩
   obtain ⟨dx,rvs,h1,h2,h3,h4,h5⟩:=hM.ex
   have hn:n<rvs.length:=by
    rw [h5.len,List.length_map]
    exact (List.getElem?_eq_some_iff.mp hr1).1
   obtain ⟨tx,fx,hx1,hx2,_⟩:=h5.get n rvs[n] (List.getElem?_eq_getElem hn)
   rw [List.getElem?_map,hr1] at hx1
   cases hx1
   obtain ⟨q1,g,ps,gs1,hq0,hq1,hg,hps,rfl⟩:=room_w.mp hx2
   walk_at "go"
   refine ⟨p,_,dx,_,_,rfl,h1,T.cl_TableMachine,T.n_TableMachine_rooms,b66 _ _ _,?_⟩
   walk_at "r"
   refine a93 (SqL.of h4) (a04 (j:=n) (v:=.ref q1) (by rw [List.getElem?_eq_getElem hn,hq0])) ?_
   walk_at "r"
   exact a65 (SqT.of hq1) (a04 (j:=0) rfl) q
end Y
def roomOf (rs:List a60) (r:Nat):a60:=rs.getD r (false,[])
def rowOf (rs:List a60) (r j:Nat):Row:=(roomOf rs r).2.getD j ([],0)
theorem ad5 {rs:List a60}{r:Nat}(h:r<rs.length):rs[r]?=some (roomOf rs r):=by
 unfold roomOf
 rw [List.getD_eq_getElem?_getD,List.getElem?_eq_getElem h]
 rfl
theorem ad1 {es:List Ev}{sy:List Str}{rs:List a60}(ok:TabOk es sy rs) {r j:Nat}(h:r<rs.length) (hj:j<es.length):(roomOf rs r).2[j]?=some (rowOf rs r j)∧(rowOf rs r j).2<rs.length∧(rowOf rs r j).1.length≤20:=by
 obtain ⟨o1,o2⟩:=ok.ok (roomOf rs r) (List.mem_of_getElem? (ad5 h))
 have e:(roomOf rs r).2[j]?=some (rowOf rs r j):=by
  unfold rowOf
  rw [List.getD_eq_getElem?_getD,List.getElem?_eq_getElem (by omega)]
  rfl
 exact ⟨e,o2 _ (List.mem_of_getElem? e)⟩
def nxR (es:List Ev) (rs:List a60) (r:Nat):List Nat:=(List.range es.length).map fun j=>(rowOf rs r j).2
theorem bu9 {es:List Ev}{sy:List Str}{rs:List a60}(ok:TabOk es sy rs):∀ k,k<rs.length→∀ x∈nxR es rs k,x<rs.length:=fun k hk x hx=>by
 obtain ⟨j,hjm,rfl⟩:=List.mem_map.mp hx
 exact (ad1 ok hk (List.mem_range.mp hjm)).2.1
theorem bf_0 {es:List Ev}{rs:List a60}(h:0<rs.length):Bf (nxR es rs) rs.length 0 [0]:=⟨by simp,fun k hk=>by rw [List.mem_singleton.mp hk]; exact h,Nat.zero_le _,fun i k hi=>absurd hi (Nat.not_lt_zero _)⟩
theorem bk3 {n:Nat}{row ks:List Nat}(hn:row.Nodup) (hl:∀ k∈row,k<n) (hk:∀ k∈ks,k<n):(addAll row ks).length≤n:=by
 obtain ⟨_,h2,h3,_⟩:=ag9 hn hl ks hk
 exact pigeon n _ h2 h3
theorem bs8 {H:Hp}{d:Addr}{row:List Nat}{k:Nat}{p:Bool→Prop}(h1:SetI H d row) (h:p (decide (k∈row))):∃ a o,V.ref d=.ref a∧DGet H a (.int (k:Nat)) o∧∃ c,V.bl o.isSome=.bl c∧p c:=by
 obtain ⟨kvs,e,_,hv⟩:=h1
 exact ⟨d,_,rfl,.inl ⟨_,Sum.inl (k:Int),.inl e,rfl,rfl⟩,_,rfl,by rw [hv]; exact h⟩
theorem aq8 {ks:List Nat}{j:Nat}{v:V}(h:(natsV ks)[j]?=some v):∃ k,ks[j]?=some k∧v=.int (k:Nat):=by
 simp only [natsV,List.getElem?_map] at h
 obtain ⟨k,h1,h2⟩:=Option.map_eq_some_iff.mp h
 exact ⟨k,h1,h2.symm⟩
theorem ce2 {es:List Ev}(hn:es.Nodup) {j:Nat}{e:Ev}(h:es[j]?=some e):plOf es e=some (.int (j:Nat)):=c01 hn (.inl ⟨List.mem_of_getElem? h,h⟩)
theorem MAt.same' {P:Params}{C:Addr}{H H':Hp}{p d s c:Addr}{es:List Ev}{sy:List Str}{rs:List a60}{gs:List Addr}(h:Y.MAt P C H p d s c es sy rs gs) (s':Same H H'):Y.MAt P C H' p d s c es sy rs gs:=by
 obtain ⟨dx,rvs,h1,h2,h3,h4,h5⟩:=h.ex
 exact ⟨dx,rvs,s' _ _ h1,a64 h2 s',s' _ _ h3,s' _ _ h4,h5.same s'⟩
def TM (P:Params) (C:Addr) (H:Hp) (m:Addr) (es:List Ev) (sy:List Str) (rs:List a60):Prop:=∃ d s c gs,Y.MAt P C H m d s c es sy rs gs
def PM (P:Params) (C:Addr) (H:Hp) (m:Addr) (es:List Ev) (sy:List Str) (rs:List a60):Prop:=∃ d tx c sh sy' txs k,PAt P C H m d tx c sh sy' es txs k∧PkOk k txs.length∧Packs k txs sy rs
def MX (P:Params) (Ct Cp:Addr) (H:Hp) (m:Addr) (es:List Ev) (sy:List Str) (rs:List a60):Prop:=TM P Ct H m es sy rs∨PM P Cp H m es sy rs
section
variable {P:Params}{C Ct Cp m:Addr}{H H':Hp}{es:List Ev}{sy:List Str}{rs:List a60}{Q:VK}{E:XK}
theorem TM.same (h:TM P C H m es sy rs) (s:Same H H'):TM P C H' m es sy rs:=by
 obtain ⟨d,s',c,gs,h⟩:=h
 exact ⟨d,s',c,gs,MAt.same' h s⟩
theorem PM.same (h:PM P C H m es sy rs) (s:Same H H'):PM P C H' m es sy rs:=by
 obtain ⟨d,tx,c,sh,sy',txs,k,h1,h2,h3⟩:=h
 exact ⟨d,tx,c,sh,sy',txs,k,h1.same s,h2,h3⟩
theorem MX.same (h:MX P Ct Cp H m es sy rs) (s:Same H H'):MX P Ct Cp H' m es sy rs:=h.imp (·.same s) (·.same s)
theorem TM.ins (h:TM P C H m es sy rs):∃ dx fs,H m=some (.ins C dx fs)∧fs.lookup ("begin":Str)=none∧fs.lookup ("step":Str)=none∧fs.lookup ("over":Str)=none:=by
 obtain ⟨d,s,c,gs,h⟩:=h
 obtain ⟨dx,rvs,g1,_⟩:=h.ex
 exact ⟨dx,_,g1,Y.mf_no _ _ _ (by decide +kernel) (by decide +kernel) (by decide +kernel),Y.mf_no _ _ _ (by decide +kernel) (by decide +kernel) (by decide +kernel),Y.mf_no _ _ _ (by decide +kernel) (by decide +kernel) (by decide +kernel)⟩
theorem PM.ins (h:PM P C H m es sy rs):∃ dx fs,H m=some (.ins C dx fs)∧fs.lookup ("begin":Str)=none∧fs.lookup ("step":Str)=none∧fs.lookup ("over":Str)=none:=by
 obtain ⟨d,tx,c,sh,sy',txs,k,h1,h2,h3⟩:=h
 obtain ⟨dx,g1,_⟩:=h1.ex
 exact ⟨dx,_,g1,b97 _ _ _ _ _ (by decide +kernel) (by decide +kernel) (by decide +kernel) (by decide +kernel) (by decide +kernel),b97 _ _ _ _ _ (by decide +kernel) (by decide +kernel) (by decide +kernel) (by decide +kernel) (by decide +kernel),b97 _ _ _ _ _ (by decide +kernel) (by decide +kernel) (by decide +kernel) (by decide +kernel) (by decide +kernel)⟩
theorem TM.beg {K:PySem.W.Frag}(h:TM P C H m es sy rs) (q:∀ k l H',H l=none→Same H H'→H' k=some (.tup [.ref l,.int 0])→H' l=some (.lst (strsV sy))→Q (.ref k) H'):Y.sp_begin K P C [.ref m] H Q E:=by
 obtain ⟨d,s,c,gs,h⟩:=h
 exact ⟨m,d,s,c,_,_,_,gs,rfl,h,q⟩
theorem PM.beg {K:PySem.W.Frag}(h:PM P C H m es sy rs) (q:∀ k l H',H l=none→Same H H'→H' k=some (.tup [.ref l,.int 0])→H' l=some (.lst (strsV sy))→Q (.ref k) H'):sp_begin K P C [.ref m] H Q E:=by
 obtain ⟨d,tx,c,sh,sy',txs,k,h1,h2,h3⟩:=h
 obtain ⟨l,l1,l2⟩:=h3.say
 exact ⟨m,d,tx,c,sh,sy',_,txs,k,l,rfl,h1,h2,l1,fun kk pl H' f s e1 e2=>q kk pl H' f s e1 (by rw [l2] at e2; exact e2)⟩
theorem TM.stp {K:PySem.W.Frag}(h:TM P C H m es sy rs) (ok:Tabs es sy rs) {n j:Nat}{v:V}{e:Ev}(hn:n<rs.length) (hj:es[j]?=some e) (hv:e.tr.At H v []) (q:∀ k l H',H l=none→Same H H'→H' k=some (.tup [.ref l,.int ((rowOf rs n j).2:Nat)])→H' l=some (.lst (strsV (rowOf rs n j).1))→Q (.ref k) H'):Y.sp_step K P C [.ref m,.int (n:Nat),v] H Q E:=by
 obtain ⟨d,s,c,gs,h⟩:=h
 exact ⟨m,d,s,c,_,_,_,gs,n,j,v,e,roomOf rs n,rowOf rs n j,rfl,h,hv,ce2 ok.nd hj,ad5 hn,(ad1 ok.ok hn (List.getElem?_eq_some_iff.mp hj).1).1,q⟩
theorem PM.stp {K:PySem.W.Frag}(h:PM P C H m es sy rs) (ok:Tabs es sy rs) {n j:Nat}{v:V}{e:Ev}(hn:n<rs.length) (hj:es[j]?=some e) (hv:e.tr.At H v []) (q:∀ k l H',H l=none→Same H H'→H' k=some (.tup [.ref l,.int ((rowOf rs n j).2:Nat)])→H' l=some (.lst (strsV (rowOf rs n j).1))→Q (.ref k) H'):sp_step K P C [.ref m,.int (n:Nat),v] H Q E:=by
 obtain ⟨d,tx,c,sh,sy',txs,k,h1,h2,h3⟩:=h
 obtain ⟨t,hh,a1,_,a3,a4⟩:=h3.room n _ (ad5 hn)
 obtain ⟨p2,l,l1,l2⟩:=a4 j _ (ad1 ok.ok hn (List.getElem?_eq_some_iff.mp hj).1).1
 exact ⟨m,d,tx,c,sh,sy',_,txs,k,n,t,j,hh,v,e,l,rfl,h1,h2,a1,a3,hv,ce2 ok.nd hj,l1,fun kk pl H'' f s e1 e2=>q kk pl H'' f s (by rw [p2] at e1; exact e1) (by rw [l2] at e2; exact e2)⟩
theorem TM.ovr {K:PySem.W.Frag}(h:TM P C H m es sy rs) {n:Nat}(hn:n<rs.length) (q:Q (.bl (roomOf rs n).1) H):Y.sp_over K P C [.ref m,.int (n:Nat)] H Q E:=by
 obtain ⟨d,s,c,gs,h⟩:=h
 exact ⟨m,d,s,c,_,_,_,gs,n,roomOf rs n,rfl,h,ad5 hn,q⟩
theorem PM.ovr {K:PySem.W.Frag}(h:PM P C H m es sy rs) {n:Nat}(hn:n<rs.length) (q:Q (.bl (roomOf rs n).1) H):sp_over K P C [.ref m,.int (n:Nat)] H Q E:=by
 obtain ⟨d,tx,c,sh,sy',txs,k,h1,h2,h3⟩:=h
 obtain ⟨t,hh,a1,a2,_,_⟩:=h3.room n _ (ad5 hn)
 exact ⟨m,d,tx,c,sh,sy',_,txs,k,n,t,rfl,h1,a1,by rw [a2]; exact q⟩
theorem bs9 {K:PySem.W.Frag}(h:MX P Ct Cp H m es sy rs):∃ C dx fs sp,H m=some (.ins C dx fs)∧fs.lookup ("begin":Str)=none∧((C=Ct∧sp=Y.sp_begin K P Ct)∨(C=Cp∧sp=sp_begin K P Cp)) ∧
 ∀ (Q:VK) (E:XK),(∀ k l H',H l=none→Same H H'→H' k=some (.tup [.ref l,.int 0])→H' l=some (.lst (strsV sy))→Q (.ref k) H')→sp [.ref m] H Q E:=by
 rcases h with h | h
 · obtain ⟨dx,fs,g,g1,g2,g3⟩:=h.ins
   exact ⟨Ct,dx,fs,_,g,g1,.inl ⟨rfl,rfl⟩,fun Q E q=>h.beg q⟩
 · obtain ⟨dx,fs,g,g1,g2,g3⟩:=h.ins
   exact ⟨Cp,dx,fs,_,g,g1,.inr ⟨rfl,rfl⟩,fun Q E q=>h.beg q⟩
theorem c09 {K:PySem.W.Frag}(h:MX P Ct Cp H m es sy rs) (ok:Tabs es sy rs):∃ C dx fs sp,H m=some (.ins C dx fs)∧fs.lookup ("step":Str)=none∧((C=Ct∧sp=Y.sp_step K P Ct)∨(C=Cp∧sp=sp_step K P Cp)) ∧
 ∀ (n j:Nat) (v:V) (e:Ev) (Q:VK) (E:XK),n<rs.length→es[j]?=some e→e.tr.At H v []→(∀ k l H',H l=none→Same H H'→H' k=some (.tup [.ref l,.int ((rowOf rs n j).2:Nat)])→H' l=some (.lst (strsV (rowOf rs n j).1))→Q (.ref k) H')→sp [.ref m,.int (n:Nat),v] H Q E:=by
 rcases h with h | h
 · obtain ⟨dx,fs,g,g1,g2,g3⟩:=h.ins
   exact ⟨Ct,dx,fs,_,g,g2,.inl ⟨rfl,rfl⟩,fun n j v e Q E a b c q=>h.stp ok a b c q⟩
 · obtain ⟨dx,fs,g,g1,g2,g3⟩:=h.ins
   exact ⟨Cp,dx,fs,_,g,g2,.inr ⟨rfl,rfl⟩,fun n j v e Q E a b c q=>h.stp ok a b c q⟩
theorem c40 {K:PySem.W.Frag}(h:MX P Ct Cp H m es sy rs):∃ C dx fs sp,H m=some (.ins C dx fs)∧fs.lookup ("over":Str)=none∧((C=Ct∧sp=Y.sp_over K P Ct)∨(C=Cp∧sp=sp_over K P Cp)) ∧
 ∀ (n:Nat) (Q:VK) (E:XK),n<rs.length→Q (.bl (roomOf rs n).1) H→sp [.ref m,.int (n:Nat)] H Q E:=by
 rcases h with h | h
 · obtain ⟨dx,fs,g,g1,g2,g3⟩:=h.ins
   exact ⟨Ct,dx,fs,_,g,g3,.inl ⟨rfl,rfl⟩,fun n Q E a q=>h.ovr a q⟩
 · obtain ⟨dx,fs,g,g1,g2,g3⟩:=h.ins
   exact ⟨Cp,dx,fs,_,g,g3,.inr ⟨rfl,rfl⟩,fun n Q E a q=>h.ovr a q⟩
end
open Y (a67 a70 a61)
def ax5 (K:PySem.W.Frag) (P:Params) (Ct Cp:Addr):Sp:=fun vs H Q _=>∃ (p ev:Addr) (us:List V) (es:List Ev) (sy:List Str) (rs:List a60),vs=[.ref p,.ref ev]∧MX P Ct Cp H p es sy rs∧Tabs es sy rs∧H ev=some (.lst us)∧Tr.Ats H (es.map Ev.tr) us []∧∀ v H',Same H H'→Q v H'
theorem ax6 (T:Txt K mg t):FnOk P w K mg base CX0 5 t.a_standings t.fd_standings ["machine","events"] (ax5 K w.params t.c_TableMachine t.c_PackMachine):=by
 have G_PackMachine_begin:=ad6 (P:=P) (w:=w) (base:=base) T
 have G_PackMachine_over:=ab7 (P:=P) (w:=w) (base:=base) T
 have G_PackMachine_step:=ae2 (P:=P) (w:=w) (base:=base) T
 have G_TableMachine_begin:=a67 (P:=P) (w:=w) (base:=base) T
 have G_TableMachine_over:=a61 (P:=P) (w:=w) (base:=base) T
 have G_TableMachine_step:=a70 (P:=P) (w:=w) (base:=base) T
 refine T.F_standings.ok sc_standings (fun vs H Q E h=>?_) (fun cdv A outer s H vs Q E hr h=>?_)
 · obtain ⟨p,ev,us,es,sy,rs,rfl,_⟩:=h
   rfl
 · obtain ⟨p,ev,us,es,sy,rs,rfl,hM,tb,hev,hus,q⟩:=h
   refine ⟨_,(@a02 _ _ _ _ _ (@a45 _ _ 2 _ _ _ _ sc_standings.nd rfl (by walk_at "o") (@a48 _ _ _ _ (@a00 _ _ _ _ _ (@a44 _ _ _ _ _ _ _ (a08 K) (bh8 (pv 0) T.cl_TableMachine T.M_TableMachine_begin G_TableMachine_begin (hr.mono (by omega)) T.b_TableMachine_begin T.cl_PackMachine T.M_PackMachine_begin G_PackMachine_begin (hr.mono (by omega)) T.b_PackMachine_begin) (@a03 _ _ _ _) (fun _ _=>rfl)) (@a01 _) (by rfl))) (by rfl) (by walk_at "o"))
    (@a02 _ _ _ _ _ (@a45 _ _ 3 _ _ _ _ sc_standings.nd rfl (by walk_at "o") (@bw4 _ _ _ _ _ (@bn0 _ _ _ _ _ _ _ _ _ (@a44 _ _ _ _ _ _ _ (a42 K) (pv 2) (@a03 _ _ _ _) (fun _ _=>rfl)) (@ag5 _ _ _ _) (@bw3 _ _)) rfl rfl (by simp) (by decide)) (by rfl) (by walk_at "o"))
    (@a02 _ _ _ _ _ (@a45 _ _ 4 _ _ _ _ sc_standings.nd rfl (by walk_at "o") (@a03 _ _ _ _) (by rfl) (by walk_at "o"))
    (@a02 _ _ _ _ _ (@al7 _ _ _ _ _ _ PassesOwn.never (@a62 _ _ _ _ _ _ _ _ bv4 (pv 4) (@a59 _ _ _ _ _ _ _ _ _ (aa6 K) (by rfl) T.z_len ab9 (@a00 _ _ _ _ _ (pv 2) (@a01 _) (by rfl)) (by decide) (by decide) (by rfl) (by rfl)) (nomark _)) (@a02 _ _ _ _ _ (@ac2 _ _ _ _ _ _ _ _ PassesOwn.never rfl (a69 K (pv 1)) (a47 (i:=5) sc_standings.nd rfl (by walk_at "o")) (@a02 _ _ _ _ _ (@a45 _ _ 6 _ _ _ _ sc_standings.nd rfl (by walk_at "o") (@a44 _ _ _ _ _ _ _ (a08 K) (b57 (pv 0) T.cl_TableMachine T.M_TableMachine_step G_TableMachine_step (hr.mono (by omega)) T.b_TableMachine_step T.cl_PackMachine T.M_PackMachine_step G_PackMachine_step (hr.mono (by omega)) T.b_PackMachine_step (@a00 _ _ _ _ _ (@a44 _ _ _ _ _ _ _ (a42 K) (pv 2) (pv 4) (fun _ _=>rfl)) (@a00 _ _ _ _ _ (pv 5) (@a01 _) (by rfl)) (by rfl))) (@a03 _ _ _ _) (fun _ _=>rfl)) (by rfl) (by walk_at "o"))
     (@a02 _ _ _ _ _ (@ad7 _ _ _ _ _ _ _ _ (at8 (c75 (by exact c68 hr) (pv 6) (pv 3))) (@a06 _ _ _ (@ay3 _ _)) (@a84 _))
     (@a02 _ _ _ _ _ (@ad7 _ _ _ _ _ _ _ _ (@a62 _ _ _ _ _ _ _ _ at9 (@a59 _ _ _ _ _ _ _ _ _ (aa6 K) (by rfl) T.z_len ab9 (@a00 _ _ _ _ _ (pv 2) (@a01 _) (by rfl)) (by decide) (by decide) (by rfl) (by rfl)) (ak2 (by rfl) T.m_MOST_STANDINGS (by exact T.r_MOST_STANDINGS)) (nomark _)) (@a06 _ _ _ b46) (@a84 _))
     (@a02 _ _ _ _ _ (bw2 (by exact c68 hr) (pv 3) (pv 6) (@ag5 _ _ _ _) rfl)
     (@a06 _ _ _ (@ab3 _ _ _ _ (@af2 _ K _ _ _ _ _ _ _ _ _ _ _ PySem.F.plainAttrs_list PySem.F.slot_list_append PySem.F.type_list_append ad2 (pv 2) (@a00 _ _ _ _ _ (pv 6) (@a01 _) (by rfl)) (by rfl) (by rfl) (by rfl) (by rfl) (by rfl) (by rfl)) (by rfl))))))) (by intro _; rfl))
     (@a06 _ _ _ (@bb2 _ _ 4 _ _ _ _ _ _ sc_standings.nd rfl (by walk_at "o") (@a03 _ _ _ _) bb3 (by walk_at "o")))))
    (@a06 _ _ _ (@a54 _ _ _ _ (ak4 (Nt:=["standing"]) (Nf:=["machine"]) (caps:=[0]) rfl (ab4 (sc:=defScope a90) rfl rfl (by decide +kernel) (by decide +kernel) (by decide +kernel) rfl (by decide +kernel)) (a69 K (pv 2)) (fun _ _ _ _ _=>(a47 (i:=0) (show (["standing","machine"]:List Str).Nodup by decide +kernel) rfl (by walk_at "o"))) (fun _ _ _ _ _=>(@ab5 _)) (fun _ _ _ _ _=>(@a66 _ _ _ _ _ (@a00 _ _ _ _ _ (pv 0) (@a00 _ _ _ _ _ (b57 (pv 1) T.cl_TableMachine T.M_TableMachine_over G_TableMachine_over (hr.mono (by omega)) T.b_TableMachine_over T.cl_PackMachine T.M_PackMachine_over G_PackMachine_over (hr.mono (by omega)) T.b_PackMachine_over (@a00 _ _ _ _ _ (pv 0) (@a01 _) (by rfl))) (@a01 _) (by rfl)) (by rfl))))))))))),?_⟩
   have ok:=tb.ok
   have hrs:=tb.r0
   have ul:us.length=es.length:=by rw [hus.len,List.length_map]
   have hx:=bu9 ok
   have o3:=ok.nr
   have o1:=ok.ne
   have sl:(1000000:Nat)≤sizeLine:=le_line (Nat.le_refl _)
   walk_at "go"
   obtain ⟨Cm,dxm,fsm,spm,m1,hno,hC,hsp⟩:=bs9 (K:=K) hM
   refine ⟨p,Cm,dxm,fsm,spm,rfl,m1,hno,hC,?_⟩
   walk_at "r"
   refine hsp _ _ (fun kb lb H1 fb s1 e1 _=>?_)
   walk_at "r"
   refine a65 (SqT.of e1) (a04 (j:=1) rfl) ?_
   walk_at "r"
   intro pf H2 f2 s2 e2
   walk_at "r"
   refine bp4 (k:=Sum.inl (0:Int)) rfl e2 rfl ?_
   intro pk H3 f3 s3 e3
   walk_at "r"
   have s02:=s1.trans s2
   have s03:=s02.trans s3
   have fpf:H pf=none:=s1.free f2
   have fk:H pk=none:=s02.free f3
   have hne:pf≠pk:=a05 e2 f3
   refine as0 (fun m σ H'=>Same H H'∧∃ (pl:Nat) (row:List Nat) (y z:Option V),σ=[some (.ref p),some (.ref ev),some (.ref pf),some (.ref pk),some (.int (pl:Nat)),y,z]∧m=rs.length+1 - pl∧Bf (nxR es rs) rs.length pl row∧H' pf=some (.lst (natsV row))∧SetI H' pk row) (rs.length+1) ⟨s03,0,[0],_,_,rfl,rfl,bf_0 hrs,s3 _ _ e2,bo1 (k:=0) e3⟩ ?_
   rintro m σ H4 ⟨s4,pl,row,y,z,rfl,rfl,hb,hpf,hpk⟩
   have hbl:=hb.le
   have hbf:=hb.few
   walk_at "r"
   refine ad3 (SqL.of hpf) ?_
   walk_at "r"
   rw [a56]
   refine ite2 (fun hc=>?_) (fun hc=>?_)
   · have hpl:pl<row.length:=by have:=of_decide_eq_true hc; omega
     have ep:row[pl]?=some row[pl]:=List.getElem?_eq_getElem hpl
     have hkn:row[pl]<rs.length:=hb.lt _ (List.getElem_mem hpl)
     have nl:(nxR es rs row[pl]).length=es.length:=by simp [nxR]
     refine ⟨fun σ' H'=>Same H H'∧∃ (y z:Option V),σ'=[some (.ref p),some (.ref ev),some (.ref pf),some (.ref pk),some (.int ((pl+1:Nat):Int)),y,z]∧H' pf=some (.lst (natsV (addAll row (nxR es rs row[pl]))))∧SetI H' pk (addAll row (nxR es rs row[pl])),fun σ' H' ⟨s',y,z,e,h1,h2⟩=>⟨rs.length+1 - (pl+1),by omega,s',pl+1,addAll row (nxR es rs row[pl]),y,z,e,rfl,hb.step ep (hx _ hkn),h1,h2⟩,?_⟩
     walk_at "r"
     refine ⟨⟨_,SqL.of (s4 _ _ hev)⟩,ac9 (K:=K) (a:=ev) (xs:=us) (fun j σ H'=>Same H H'∧j≤es.length∧H' pf=some (.lst (natsV (addAll row ((nxR es rs row[pl]).take j))))∧SetI H' pk (addAll row ((nxR es rs row[pl]).take j))∧∃ y z,σ=[some (.ref p),some (.ref ev),some (.ref pf),some (.ref pk),some (.int (pl:Nat)),y,z]) ⟨s4,Nat.zero_le _,hpf,hpk,_,_,rfl⟩ (fun j σ H' _ ⟨s',_⟩=>SqL.of (s' _ _ hev)) ?_ ?_⟩
     · rintro j v σ H5 hj ⟨s5,hjl,hf5,hk5,y,z,rfl⟩
       obtain ⟨tx,hx1,hx2⟩:=aa0 (hus.same s5) hj
       rw [List.getElem?_map] at hx1
       obtain ⟨e,he,rfl⟩:=Option.map_eq_some_iff.mp hx1
       have hj':j<es.length:=(List.getElem?_eq_some_iff.mp he).1
       obtain ⟨r1,r2,r3⟩:=ad1 ok hkn hj'
       have hk:(nxR es rs row[pl])[j]?=some (rowOf rs row[pl] j).2:=by unfold nxR; rw [List.getElem?_map,List.getElem?_range hj']; rfl
       have hall:∀ x∈(nxR es rs row[pl]).take j,x<rs.length:=fun x hx'=>hx _ hkn x (List.mem_of_mem_take hx')
       have hfw:=bk3 hb.nd hb.lt hall
       have htk:(nxR es rs row[pl]).take (j+1)=(nxR es rs row[pl]).take j++[(rowOf rs row[pl] j).2]:=by rw [List.take_add_one,hk]; rfl
       have hgl:(addAll row ((nxR es rs row[pl]).take j))[pl]?=some row[pl]:=by
        obtain ⟨⟨tl,h1⟩,_⟩:=ag9 hb.nd hb.lt _ hall
        rw [h1,List.getElem?_append_left hpl,ep]
       walk_at "r"
       obtain ⟨Cm,dxm,fsm,spm,m1,hno,hC,hsp⟩:=c09 (K:=K) (hM.same s5) tb
       refine ⟨p,Cm,dxm,fsm,spm,rfl,m1,hno,hC,?_⟩
       walk_at "r"
       refine a93 (SqL.of hf5) (a04 (j:=pl) (v:=.int (row[pl]:Nat)) (by simp only [natsV,List.getElem?_map,hgl]; rfl)) ?_
       walk_at "r"
       refine hsp row[pl] j v e _ _ hkn he hx2 (fun kb lb H6 f6 s6 e6 _=>?_)
       refine a65 (SqT.of e6) (a04 (j:=1) rfl) ?_
       walk_at "r"
       have hf6:=s6 _ _ hf5
       have hk6:=hk5.mono s6
       have s06:=s5.trans s6
       refine bs8 hk6 ?_
       generalize (rowOf rs row[pl] j).2=k at htk r2
       by_cases hm:k∈addAll row ((nxR es rs row[pl]).take j)
       · rw [decide_eq_true hm]
         walk_at "r"
         refine ⟨s06,hj',?_,?_,_,_,rfl⟩
         · rw [htk,ab6,if_pos hm]; exact hf6
         · rw [htk,ab6,if_pos hm]; exact hk6
       · rw [decide_eq_false hm]
         walk_at "r"
         refine ad3 (SqL.of hf6) ?_
         walk_at "r"
         rw [a56]
         refine ite2 (fun hc=>?_) (fun hc=>?_)
         · exfalso
           have:=of_decide_eq_true hc
           omega
         walk_at "r"
         obtain ⟨H7,hput,hset,o7,rfl⟩:=hk6.put (k:=k) (v:=.bl true) (by omega)
         refine ⟨pk,_,rfl,hput,?_⟩
         walk_at "r"
         have hf7:upd H6 pk (.dK o7) pf=some (.lst (natsV (addAll row ((nxR es rs row[pl]).take j)))):=by rw [a09 hne]; exact hf6
         refine aj4 (SqL.of hf7) ?_
         walk_at "r"
         refine ae4 hf7 (Nat.lt_of_lt_of_le (show (natsV (addAll row ((nxR es rs row[pl]).take j))).length<1000000 by rw [a56]; omega) sl) ?_
         refine ⟨(s06.updNew fk).updNew fpf,hj',?_,?_,_,_,rfl⟩
         · rw [a41,ac0,htk,ab6,if_neg hm]
         · rw [htk,ab6,if_neg hm]
           obtain ⟨kvs,h1,h2⟩:=hset
           exact ⟨kvs,by rw [a09 (Ne.symm hne)]; exact h1,h2⟩
     · rintro σ H5 ⟨s5,hjl,hf5,hk5,y,z,rfl⟩
       rw [ul,←nl,List.take_length] at hf5 hk5
       refine bu1 rfl ?_
       exact ⟨s5,_,_,rfl,hf5,hk5⟩
   · walk_at "r"
     refine ⟨⟨_,SqL.of hpf⟩,ae6 (xs:=natsV row) (le_line (by rw [a56]; omega)) (fun i acc H'=>Same H4 H'∧acc.length=i) ⟨Same.refl _,rfl⟩ (fun i acc H' ⟨s',e⟩=>⟨by omega,SqL.of (s' _ _ hpf)⟩) ?_ ?_⟩
     · rintro i x acc H5 hx ⟨s5,ea⟩
       obtain ⟨k,hk,rfl⟩:=aq8 hx
       have hkl:=hb.lt k (List.mem_of_getElem? hk)
       walk_at "r"
       obtain ⟨Cm,dxm,fsm,spm,m1,hno,hC,hsp⟩:=c40 (K:=K) (hM.same (s4.trans s5))
       refine ⟨p,Cm,dxm,fsm,spm,rfl,m1,hno,hC,?_⟩
       walk_at "r"
       refine hsp k _ _ hkl ?_
       walk_at "r"
       intro p6 H6 f6 s6 e6
       exact ⟨s5.trans s6,by simp [ea]⟩
     · rintro acc H5 ⟨s5,_⟩ p6 H6 f6 s6 e6
       exact q _ H6 ((s4.trans s5).trans s6)
open Y (a67 a70 a61)
def PairV (H:Hp) (v:V):Option (Nat×Nat)→Prop
 | none=>v=.non
 | some p=>∃ k,v=.ref k∧H k=some (.tup [.int (p.1:Nat),.int (p.2:Nat)])
def mkP (rs:List a60) (x y:Row):Option (Nat×Nat):=if x.1=y.1∧(roomOf rs x.2).1=(roomOf rs y.2).1 then some (x.2,y.2) else none
def bk4 (K:PySem.W.Frag) (P:Params) (Ct Cp:Addr):Sp:=fun vs H Q _=>∃ (o1 o2 t1 t2 l1 l2:Addr) (es:List Ev) (sy:List Str) (rs:List a60) (x y:Row),vs=[.ref o1,.ref o2,.ref t1,.ref t2]∧TM P Ct H o1 es sy rs∧PM P Cp H o2 es sy rs∧H t1=some (.tup [.ref l1,.int (x.2:Nat)])∧H l1=some (.lst (strsV x.1))∧H t2=some (.tup [.ref l2,.int (y.2:Nat)])∧H l2=some (.lst (strsV y.1))∧x.2<rs.length∧y.2<rs.length∧∀ v H',Same H H'→PairV H' v (mkP rs x y)→Q v H'
theorem aq9 (T:Txt K mg t):FnOk P w K mg base CX0 2 t.a_pair_of t.fd_pair_of ["one","other","told","told_beside"] (bk4 K w.params t.c_TableMachine t.c_PackMachine):=by
 have G_PackMachine_over:=ab7 (P:=P) (w:=w) (base:=base) T
 have G_TableMachine_over:=a61 (P:=P) (w:=w) (base:=base) T
 refine T.F_pair_of.ok b93 (fun vs H Q E h=>?_) (fun cdv A outer s H vs Q E hr h=>?_)
 · obtain ⟨o1,o2,t1,t2,l1,l2,es,sy,rs,x,y,rfl,_⟩:=h
   rfl
 · obtain ⟨o1,o2,t1,t2,l1,l2,es,sy,rs,x,y,rfl,hT,hP,h1,h2,h3,h4,hx,hy,q⟩:=h
   refine ⟨_,(@a02 _ _ _ _ _ (@ad7 _ _ _ _ _ _ _ _ (@PW.pt _ _ _ (@bl5 _ _ _ _ _ _ _ (@a62 _ _ _ _ _ _ _ _ (be2 K (by exact hr.units0)) (@a44 _ _ _ _ _ _ _ (a08 K) (pv 2) (@a03 _ _ _ _) (fun _ _=>rfl)) (@a44 _ _ _ _ _ _ _ (a08 K) (pv 3) (@a03 _ _ _ _) (fun _ _=>rfl)) (nomark _)) (@b45 _ _ _ _ (@a62 _ _ _ _ _ _ _ _ bl7 (af3 (pv 0) T.cl_TableMachine T.M_TableMachine_over G_TableMachine_over (hr.mono (by omega)) T.b_TableMachine_over .nil a55 (@a00 _ _ _ _ _ (@a44 _ _ _ _ _ _ _ (a08 K) (pv 2) (@a03 _ _ _ _) (fun _ _=>rfl)) (@a01 _) (by rfl))) (af3 (pv 1) T.cl_PackMachine T.M_PackMachine_over G_PackMachine_over (hr.mono (by omega)) T.b_PackMachine_over .nil a55 (@a00 _ _ _ _ _ (@a44 _ _ _ _ _ _ _ (a08 K) (pv 3) (@a03 _ _ _ _) (fun _ _=>rfl)) (@a01 _) (by rfl))) (nomark _))))) (@a06 _ _ _ (@a54 _ _ _ _ (@af0 _ _ _))) (@a84 _))
    (@a06 _ _ _ (@a54 _ _ _ _ (@a66 _ _ _ _ _ (@a00 _ _ _ _ _ (@a44 _ _ _ _ _ _ _ (a08 K) (pv 2) (@a03 _ _ _ _) (fun _ _=>rfl)) (@a00 _ _ _ _ _ (@a44 _ _ _ _ _ _ _ (a08 K) (pv 3) (@a03 _ _ _ _) (fun _ _=>rfl)) (@a01 _) (by rfl)) (by rfl)))))),?_⟩
   obtain ⟨dx1,fs1,g1,_,_,g2⟩:=hT.ins
   obtain ⟨dx2,fs2,g3,_,_,g4⟩:=hP.ins
   walk_at "go"
   refine a65 (SqT.of h1) (a04 (j:=0) rfl) ?_
   walk_at "r"
   refine a65 (SqT.of h3) (a04 (j:=0) rfl) ?_
   walk_at "r"
   refine ca4 (SqL.of h2) (SqL.of h4) ?_
   walk_at "r"
   by_cases hs:x.1=y.1
   · rw [decide_eq_true hs]
     walk_at "r"
     refine ⟨o1,dx1,fs1,rfl,g1,g2,?_⟩
     walk_at "r"
     refine a65 (SqT.of h1) (a04 (j:=1) rfl) ?_
     walk_at "r"
     refine hT.ovr hx ?_
     walk_at "r"
     refine ⟨o2,dx2,fs2,rfl,g3,g4,?_⟩
     walk_at "r"
     refine a65 (SqT.of h3) (a04 (j:=1) rfl) ?_
     walk_at "r"
     refine hP.ovr hy ?_
     walk_at "r"
     by_cases ho:(roomOf rs x.2).1=(roomOf rs y.2).1
     · rw [decide_eq_true ho]
       walk_at "r"
       refine a65 (SqT.of h1) (a04 (j:=1) rfl) ?_
       walk_at "r"
       refine a65 (SqT.of h3) (a04 (j:=1) rfl) ?_
       walk_at "r"
       intro p5 H5 f5 s5 e5
       refine q _ H5 s5 ?_
       rw [mkP,if_pos ⟨hs,ho⟩]
       exact ⟨p5,rfl,e5⟩
     · rw [decide_eq_false ho]
       walk_at "r"
       refine q _ H (Same.refl _) ?_
       rw [mkP,if_neg fun z=>ho z.2]
       rfl
   · rw [decide_eq_false hs]
     walk_at "r"
     refine q _ H (Same.refl _) ?_
     rw [mkP,if_neg fun z=>hs z.1]
     rfl
def bt0 (K:PySem.W.Frag) (P:Params) (Ct Cp:Addr):Sp:=fun vs H Q _=>∃ (o1 o2:Addr) (es:List Ev) (sy:List Str) (rs:List a60),vs=[.ref o1,.ref o2]∧TM P Ct H o1 es sy rs∧PM P Cp H o2 es sy rs∧Tabs es sy rs∧∀ k H',Same H H'→H' k=some (.tup [.int 0,.int 0])→Q (.ref k) H'
theorem ak1 (T:Txt K mg t):FnOk P w K mg base CX0 5 t.a_begun_pair t.fd_begun_pair ["one","other"] (bt0 K w.params t.c_TableMachine t.c_PackMachine):=by
 have G_PackMachine_begin:=ad6 (P:=P) (w:=w) (base:=base) T
 have G_TableMachine_begin:=a67 (P:=P) (w:=w) (base:=base) T
 have G_pair_of:=aq9 (P:=P) (w:=w) (base:=base) T
 refine T.F_begun_pair.ok sc_begun_pair (fun vs H Q E h=>?_) (fun cdv A outer s H vs Q E hr h=>?_)
 · obtain ⟨o1,o2,es,sy,rs,rfl,_⟩:=h
   rfl
 · obtain ⟨o1,o2,es,sy,rs,rfl,hT,hP,tb,q⟩:=h
   refine ⟨_,(@a02 _ _ _ _ _ (@a45 _ _ 2 _ _ _ _ sc_begun_pair.nd rfl (by walk_at "o") (b47 (pv 0) T.cl_TableMachine T.M_TableMachine_begin G_TableMachine_begin (hr.mono (by omega)) T.b_TableMachine_begin .nil a55) (by rfl) (by walk_at "o"))
    (@a02 _ _ _ _ _ (@a45 _ _ 3 _ _ _ _ sc_begun_pair.nd rfl (by walk_at "o") (@a63 _ _ _ _ _ _ _ _ _ (ad0 K) (by rfl) T.z_list ac8 (@a00 _ _ _ _ _ (@a44 _ _ _ _ _ _ _ (a08 K) (pv 2) (@a03 _ _ _ _) (fun _ _=>rfl)) (@a01 _) (by rfl)) (by decide) (by decide) (by rfl) (by rfl)) (by rfl) (by walk_at "o"))
    (@a06 _ _ _ (@a54 _ _ _ _ (@a40 _ _ _ _ _ _ _ _ _ _ _ _ _ _ _ _ G_pair_of (hr.mono (by omega)) rfl T.m_pair_of T.F_pair_of.kp T.b_pair_of .nil a55 (@a00 _ _ _ _ _ (pv 0) (@a00 _ _ _ _ _ (pv 1) (@a00 _ _ _ _ _ (@a66 _ _ _ _ _ (@a00 _ _ _ _ _ (pv 3) (@a00 _ _ _ _ _ (@a44 _ _ _ _ _ _ _ (a08 K) (pv 2) (@a03 _ _ _ _) (fun _ _=>rfl)) (@a01 _) (by rfl)) (by rfl))) (@a00 _ _ _ _ _ (b47 (pv 1) T.cl_PackMachine T.M_PackMachine_begin G_PackMachine_begin (hr.mono (by omega)) T.b_PackMachine_begin .nil a55) (@a01 _) (by rfl)) (by rfl)) (by rfl)) (by rfl)) (by decide) (by rfl) (by rfl)))))),?_⟩
   obtain ⟨dx1,fs1,g1,g2,_⟩:=hT.ins
   have hns:=tb.ok.ns
   walk_at "go"
   refine ⟨o1,dx1,fs1,rfl,g1,g2,?_⟩
   walk_at "r"
   refine hT.beg fun k l H1 f1 s1 e1 e1'=>?_
   walk_at "r"
   refine a65 (SqT.of e1) (a04 (j:=0) rfl) ?_
   walk_at "r"
   refine ae8 (SqL.of e1') ?_
   intro l2 H2 f2 s2 e2
   walk_at "r"
   refine a65 (SqT.of (s2 _ _ e1)) (a04 (j:=1) rfl) ?_
   walk_at "r"
   intro t3 H3 f3 s3 e3
   have s03:=s1.trans (s2.trans s3)
   have hP3:=hP.same s03
   obtain ⟨dx2,fs2,g3,g4,_⟩:=hP3.ins
   walk_at "r"
   refine ⟨o2,dx2,fs2,rfl,g3,g4,?_⟩
   walk_at "r"
   refine hP3.beg fun k4 l4 H4 f4 s4 e4 e4'=>?_
   refine ⟨o1,o2,t3,k4,l2,l4,es,sy,rs,(sy,0),(sy,0),rfl,hT.same (s03.trans s4),hP3.same s4,s4 _ _ e3,(s3.trans s4) _ _ e2,e4,e4',tb.r0,tb.r0,fun v H5 s5 hv=>?_⟩
   rw [mkP,if_pos ⟨rfl,rfl⟩] at hv
   obtain ⟨k5,rfl,e5⟩:=hv
   exact q k5 H5 (s03.trans (s4.trans s5)) e5
def ba3 (K:PySem.W.Frag) (P:Params) (Ct Cp:Addr):Sp:=fun vs H Q _=>∃ (o1 o2 p:Addr) (ev:V) (e:Ev) (a b j:Nat) (es:List Ev) (sy:List Str) (rs:List a60),vs=[.ref o1,.ref o2,.ref p,ev]∧TM P Ct H o1 es sy rs∧PM P Cp H o2 es sy rs∧Tabs es sy rs∧H p=some (.tup [.int (a:Nat),.int (b:Nat)])∧a<rs.length∧b<rs.length∧es[j]?=some e∧e.tr.At H ev []∧∀ v H',Same H H'→PairV H' v (mkP rs (rowOf rs a j) (rowOf rs b j))→Q v H'
theorem ah5 (T:Txt K mg t):FnOk P w K mg base CX0 5 t.a_stepped_pair t.fd_stepped_pair ["one","other","pair","event"] (ba3 K w.params t.c_TableMachine t.c_PackMachine):=by
 have G_PackMachine_step:=ae2 (P:=P) (w:=w) (base:=base) T
 have G_TableMachine_step:=a70 (P:=P) (w:=w) (base:=base) T
 have G_pair_of:=aq9 (P:=P) (w:=w) (base:=base) T
 refine T.F_stepped_pair.ok sc_stepped_pair (fun vs H Q E h=>?_) (fun cdv A outer s H vs Q E hr h=>?_)
 · obtain ⟨o1,o2,p,ev,e,a,b,j,es,sy,rs,rfl,_⟩:=h
   rfl
 · obtain ⟨o1,o2,p,ev,e,a,b,j,es,sy,rs,rfl,hT,hP,tb,hp,ha,hb,hj,hev,q⟩:=h
   refine ⟨_,(@a02 _ _ _ _ _ (@a45 _ _ 4 _ _ _ _ sc_stepped_pair.nd rfl (by walk_at "o") (af3 (pv 0) T.cl_TableMachine T.M_TableMachine_step G_TableMachine_step (hr.mono (by omega)) T.b_TableMachine_step .nil a55 (@a00 _ _ _ _ _ (@a44 _ _ _ _ _ _ _ (a08 K) (pv 2) (@a03 _ _ _ _) (fun _ _=>rfl)) (@a00 _ _ _ _ _ (pv 3) (@a01 _) (by rfl)) (by rfl))) (by rfl) (by walk_at "o"))
    (@a02 _ _ _ _ _ (@a45 _ _ 5 _ _ _ _ sc_stepped_pair.nd rfl (by walk_at "o") (@a63 _ _ _ _ _ _ _ _ _ (ad0 K) (by rfl) T.z_list ac8 (@a00 _ _ _ _ _ (@a44 _ _ _ _ _ _ _ (a08 K) (pv 4) (@a03 _ _ _ _) (fun _ _=>rfl)) (@a01 _) (by rfl)) (by decide) (by decide) (by rfl) (by rfl)) (by rfl) (by walk_at "o"))
    (@a06 _ _ _ (@a54 _ _ _ _ (@a40 _ _ _ _ _ _ _ _ _ _ _ _ _ _ _ _ G_pair_of (hr.mono (by omega)) rfl T.m_pair_of T.F_pair_of.kp T.b_pair_of .nil a55 (@a00 _ _ _ _ _ (pv 0) (@a00 _ _ _ _ _ (pv 1) (@a00 _ _ _ _ _ (@a66 _ _ _ _ _ (@a00 _ _ _ _ _ (pv 5) (@a00 _ _ _ _ _ (@a44 _ _ _ _ _ _ _ (a08 K) (pv 4) (@a03 _ _ _ _) (fun _ _=>rfl)) (@a01 _) (by rfl)) (by rfl))) (@a00 _ _ _ _ _ (af3 (pv 1) T.cl_PackMachine T.M_PackMachine_step G_PackMachine_step (hr.mono (by omega)) T.b_PackMachine_step .nil a55 (@a00 _ _ _ _ _ (@a44 _ _ _ _ _ _ _ (a08 K) (pv 2) (@a03 _ _ _ _) (fun _ _=>rfl)) (@a00 _ _ _ _ _ (pv 3) (@a01 _) (by rfl)) (by rfl))) (@a01 _) (by rfl)) (by rfl)) (by rfl)) (by rfl)) (by decide) (by rfl) (by rfl)))))),?_⟩
   obtain ⟨dx1,fs1,g1,_,g2,_⟩:=hT.ins
   have hjl:=(List.getElem?_eq_some_iff.mp hj).1
   have ra:=ad1 tb.ok ha hjl
   have rb:=ad1 tb.ok hb hjl
   walk_at "go"
   refine ⟨o1,dx1,fs1,rfl,g1,g2,?_⟩
   walk_at "r"
   refine a65 (SqT.of hp) (a04 (j:=0) rfl) ?_
   walk_at "r"
   refine hT.stp tb ha hj hev fun k l H1 f1 s1 e1 e1'=>?_
   walk_at "r"
   refine a65 (SqT.of e1) (a04 (j:=0) rfl) ?_
   walk_at "r"
   refine ae8 (SqL.of e1') ?_
   intro l2 H2 f2 s2 e2
   walk_at "r"
   refine a65 (SqT.of (s2 _ _ e1)) (a04 (j:=1) rfl) ?_
   walk_at "r"
   intro t3 H3 f3 s3 e3
   have s03:=s1.trans (s2.trans s3)
   have hP3:=hP.same s03
   obtain ⟨dx2,fs2,g3,_,g4,_⟩:=hP3.ins
   walk_at "r"
   refine ⟨o2,dx2,fs2,rfl,g3,g4,?_⟩
   walk_at "r"
   refine a65 (SqT.of (s03 _ _ hp)) (a04 (j:=1) rfl) ?_
   walk_at "r"
   refine hP3.stp tb hb hj (hev.same s03) fun k4 l4 H4 f4 s4 e4 e4'=>?_
   refine ⟨o1,o2,t3,k4,l2,l4,es,sy,rs,_,_,rfl,hT.same (s03.trans s4),hP3.same s4,s4 _ _ e3,(s3.trans s4) _ _ e2,e4,e4',ra.2.1,rb.2.1,fun v H5 s5 hv=>q v H5 (s03.trans (s4.trans s5)) hv⟩
open Y (a67 a70 a61)
theorem ae9 {H:Hp}{q:Addr}{a b:Nat}(e:H q=some (.tup [.int (a:Nat),.int (b:Nat)])):(pairT (a,b)).At H (.ref q) []:=by
 unfold pairT
 exact at_tup0.mpr ⟨q,_,rfl,e,ats_cons0.mpr ⟨_,_,rfl,am5,ats_cons0.mpr ⟨_,_,rfl,am5,ats_nil0.mpr rfl⟩⟩⟩
theorem at6 (kvs:List (Tr×V)) (t:Tr):(valV kvs t).isSome=decide (t∈kvs.map (·.1)):=by
 induction kvs with
 | nil=>rfl
 | cons p l ih =>
   by_cases h:p.1=t
   · rw [aa4 h]; simp [h]
   · rw [aa5 h,ih]; simp [Ne.symm h]
theorem bk5 (kvs:List (Tr×V)) (t t':Tr) (v:V):t'∈(putK kvs t v).map (·.1)↔t'∈kvs.map (·.1)∨t'=t:=by
 unfold putK
 by_cases h:(kvs.any fun kv=>decide (kv.1=t))=true
 · rw [if_pos h,List.map_map,show kvs.map ((·.1)∘fun kv=>if kv.1=t then (kv.1,v) else kv)=kvs.map (·.1) from List.map_congr_left fun x _=>by simp only [Function.comp]; split <;> rfl]
   obtain ⟨x,hx,e⟩:=List.any_eq_true.mp h
   exact ⟨.inl,fun z=>z.elim id fun z=>z ▸ of_decide_eq_true e ▸ List.mem_map_of_mem hx⟩
 · rw [if_neg h,List.map_append,List.mem_append]
   simp
theorem ax7:∀ (ps kvs:List (Tr×V)) (t:Tr),t∈(mergeT kvs ps).map (·.1)↔t∈kvs.map (·.1)∨t∈ps.map (·.1)
 | [],kvs,t=>by simp [mergeT]
 | p::ps,kvs,t=>by
   rw [show mergeT kvs (p::ps)=mergeT (putK kvs p.1 p.2) ps from rfl,ax7 ps,bk5]
   simp [or_assoc]
def RightP (es:List Ev) (rs:List a60) (pp:List (Nat×Nat)):Prop:=(0,0)∈pp∧∀ p∈pp,(roomOf rs p.1).1=(roomOf rs p.2).1∧∀ j,j<es.length→∃ q∈pp,mkP rs (rowOf rs p.1 j) (rowOf rs p.2 j)=some q
theorem bk6 (pp:List (Nat×Nat)) (t:Tr):t∈(mergeT [] (pp.map fun p=>(pairT p,V.bl true))).map (·.1)↔∃ p∈pp,t=pairT p:=by
 rw [ax7,List.map_map]
 simp only [List.map_nil,List.not_mem_nil,false_or,List.mem_map,Function.comp]
 exact ⟨fun ⟨p,h,e⟩=>⟨p,h,e.symm⟩,fun ⟨p,h,e⟩=>⟨p,h,e.symm⟩⟩
def bk7 (K:PySem.W.Frag) (P:Params) (Ct Cp:Addr):Sp:=fun vs H Q _=>∃ (o1 o2 ev pa:Addr) (us pvs:List V) (es:List Ev) (sy:List Str) (rs:List a60) (pp:List (Nat×Nat)),vs=[.ref o1,.ref o2,.ref ev,.ref pa]∧TM P Ct H o1 es sy rs∧PM P Cp H o2 es sy rs∧Tabs es sy rs∧H ev=some (.lst us)∧Tr.Ats H (es.map Ev.tr) us []∧H pa=some (.lst pvs)∧Tr.Ats H (pp.map pairT) pvs []∧pp.length≤1000∧(∀ p∈pp,p.1<rs.length∧p.2<rs.length)∧∀ (b:Bool) H',Same H H'→(b=true↔RightP es rs pp)→Q (.bl b) H'
theorem ap1 (T:Txt K mg t):FnOk P w K mg base CX0 6 t.a_right_paper t.fd_right_paper ["one","other","events","paper"] (bk7 K w.params t.c_TableMachine t.c_PackMachine):=by
 have G_PackMachine_over:=ab7 (P:=P) (w:=w) (base:=base) T
 have G_TableMachine_over:=a61 (P:=P) (w:=w) (base:=base) T
 have G_begun_pair:=ak1 (P:=P) (w:=w) (base:=base) T
 have G_stepped_pair:=ah5 (P:=P) (w:=w) (base:=base) T
 refine T.F_right_paper.ok sc_right_paper (fun vs H Q E h=>?_) (fun cdv A outer s H vs Q E hr h=>?_)
 · obtain ⟨o1,o2,ev,pa,us,pvs,es,sy,rs,pp,rfl,_⟩:=h
   rfl
 · obtain ⟨o1,o2,ev,pa,us,pvs,es,sy,rs,pp,rfl,hT,hP,tb,hev,hus,hpa,hpv,hpl,hlt,q⟩:=h
   refine ⟨_,(@a02 _ _ _ _ _ (@a45 _ _ 4 _ _ _ _ sc_right_paper.nd rfl (by walk_at "o") (@a63 _ _ _ _ _ _ _ _ _ (bh9 (P:=w.params) K rfl (by exact hr.units)) (by rfl) T.z_dict bx2 (@a00 _ _ _ _ _ (ak4 (Nt:=["pair"]) (Nf:=[]) (caps:=[]) rfl (ab4 (sc:=defScope a72) rfl rfl (by decide +kernel) (by decide +kernel) (by decide +kernel) rfl (by decide +kernel)) (a69 K (pv 3)) (fun _ _ _ _ _=>(a47 (i:=0) (show (["pair"]:List Str).Nodup by decide +kernel) rfl (by walk_at "o"))) (fun _ _ _ _ _=>(@ab5 _)) (fun _ _ _ _ _=>(@a66 _ _ _ _ _ (@a00 _ _ _ _ _ (pv 0) (@a00 _ _ _ _ _ (@ag5 _ _ _ _) (@a01 _) (by rfl)) (by rfl))))) (@a01 _) (by rfl)) (by decide) (by decide) (by rfl) (by rfl)) (by rfl) (by walk_at "o"))
    (@a02 _ _ _ _ _ (@ad7 _ _ _ _ _ _ _ _ (at8 (am8 (P:=w.params) rfl (by exact hr.units) (@a40 _ _ _ _ _ _ _ _ _ _ _ _ _ _ _ _ G_begun_pair (hr.mono (by omega)) rfl T.m_begun_pair T.F_begun_pair.kp T.b_begun_pair .nil a55 (@a00 _ _ _ _ _ (pv 0) (@a00 _ _ _ _ _ (pv 1) (@a01 _) (by rfl)) (by rfl)) (by decide) (by rfl) (by rfl)) (pv 4))) (@a06 _ _ _ (@a54 _ _ _ _ (@ag5 _ _ _ _))) (@a84 _))
    (@a02 _ _ _ _ _ (@ac2 _ _ _ _ _ _ _ _ PassesOwn.never rfl (bp7 (P:=w.params) rfl (pv 4)) (a47 (i:=5) sc_right_paper.nd rfl (by walk_at "o")) (@a02 _ _ _ _ _ (@ad7 _ _ _ _ _ _ _ _ (@a62 _ _ _ _ _ _ _ _ bl7 (af3 (pv 0) T.cl_TableMachine T.M_TableMachine_over G_TableMachine_over (hr.mono (by omega)) T.b_TableMachine_over .nil a55 (@a00 _ _ _ _ _ (@a44 _ _ _ _ _ _ _ (a08 K) (pv 5) (@a03 _ _ _ _) (fun _ _=>rfl)) (@a01 _) (by rfl))) (af3 (pv 1) T.cl_PackMachine T.M_PackMachine_over G_PackMachine_over (hr.mono (by omega)) T.b_PackMachine_over .nil a55 (@a00 _ _ _ _ _ (@a44 _ _ _ _ _ _ _ (a08 K) (pv 5) (@a03 _ _ _ _) (fun _ _=>rfl)) (@a01 _) (by rfl))) (nomark _)) (@a06 _ _ _ (@a54 _ _ _ _ (@ag5 _ _ _ _))) (@a84 _))
     (@a06 _ _ _ (@ac2 _ _ _ _ _ _ _ _ PassesOwn.never rfl (a69 K (pv 2)) (a47 (i:=6) sc_right_paper.nd rfl (by walk_at "o")) (@a06 _ _ _ (@ad7 _ _ _ _ _ _ _ _ (at8 (am8 (P:=w.params) rfl (by exact hr.units) (@a40 _ _ _ _ _ _ _ _ _ _ _ _ _ _ _ _ G_stepped_pair (hr.mono (by omega)) rfl T.m_stepped_pair T.F_stepped_pair.kp T.b_stepped_pair .nil a55 (@a00 _ _ _ _ _ (pv 0) (@a00 _ _ _ _ _ (pv 1) (@a00 _ _ _ _ _ (pv 5) (@a00 _ _ _ _ _ (pv 6) (@a01 _) (by rfl)) (by rfl)) (by rfl)) (by rfl)) (by decide) (by rfl) (by rfl)) (pv 4))) (@a06 _ _ _ (@a54 _ _ _ _ (@ag5 _ _ _ _))) (@a84 _))) (by intro _; rfl)))) (by intro _; rfl))
    (@a06 _ _ _ (@a54 _ _ _ _ (@ag5 _ _ _ _)))))),?_⟩
   have sl:(1000000:Nat)≤sizeLine:=le_line (Nat.le_refl _)
   have pl:pvs.length=pp.length:=by rw [hpv.len,List.length_map]
   have ul:us.length=es.length:=by rw [hus.len,List.length_map]
   walk_at "go"
   refine ⟨⟨_,SqL.of hpa⟩,ae6 (xs:=pvs) (le_line (by omega)) (fun i acc H'=>i≤pp.length∧acc.length=i∧Same H H'∧PrT H' acc ((pp.take i).map fun p=>(pairT p,V.bl true))) ⟨Nat.zero_le _,rfl,Same.refl _,.nil⟩ (fun i acc H' ⟨_,e,s',_⟩=>⟨by omega,SqL.of (s' _ _ hpa)⟩) ?_ ?_⟩
   · rintro i x acc H1 hx ⟨hi,ea,s1,hpr⟩
     obtain ⟨tx,hx1,hx2⟩:=aa0 hpv hx
     rw [List.getElem?_map] at hx1
     obtain ⟨p,hp,rfl⟩:=Option.map_eq_some_iff.mp hx1
     have hi':i<pp.length:=(List.getElem?_eq_some_iff.mp hp).1
     walk_at "r"
     intro p2 H2 f2 s2 e2
     refine ⟨hi',by simp [ea],s1.trans s2,?_⟩
     rw [List.take_add_one,hp,List.map_append]
     exact (hpr.mono s2.tups).snoc e2 ⟨ae1 hx2 (s1.trans s2).tups,by have:=ae3 p; omega⟩
   rintro acc H1 ⟨_,ea,s1,hpr⟩ pc H2 f2 s2 e2
   rw [pl,List.take_length] at hpr
   walk_at "r"
   refine bq9 (SqL.of e2) (hpr.mono s2.tups) ?_
   intro d o3 f3 hD
   walk_at "r"
   have fd:H d=none:=(s1.trans s2).free f3
   have s3:Same H (upd H2 d o3):=(s1.trans s2).trans (Same.new f3)
   generalize upd H2 d o3=H3 at hD s3
   have hmem:∀ t,(valV (mergeT [] (pp.map fun p=>(pairT p,V.bl true))) t).isSome=true↔∃ p∈pp,t=pairT p:=fun t=>by
    rw [at6,decide_eq_true_iff]
    exact bk6 pp t
   refine ⟨o1,o2,es,sy,rs,rfl,hT.same s3,hP.same s3,tb,fun k4 H4 s4 e4=>?_⟩
   have s04:=s3.trans s4
   walk_at "r"
   refine ⟨d,_,pairT (0,0),rfl,a64 hD s4,⟨ae9 (a:=0) (b:=0) e4,by have:=ae3 (0,0); omega⟩,?_⟩
   walk_at "r"
   by_cases h0:(0,0)∈pp
   rotate_left
   · rw [show (valV (mergeT [] (pp.map fun p=>(pairT p,V.bl true))) (pairT (0,0))).isSome=false from by
      rw [Bool.eq_false_iff]
      intro z
      obtain ⟨p,hp,e⟩:=(hmem _).mp z
      exact h0 (pairT_inj e ▸ hp)]
     walk_at "r"
     exact q false H4 s04 ⟨fun z=>(nomatch z),fun z=>absurd z.1 h0⟩
   rw [(hmem _).mpr ⟨_,h0,rfl⟩]
   walk_at "r"
   refine ⟨d,_,rfl,a64 hD s4,fun m o5 H5 hm hk5 fz=>?_⟩
   have s05:Same H H5:=fun x ob e=>hk5 x ob (a05 e fd) (s04 _ _ e)
   have hmk:∀ x∈m,∃ p∈pp,x.1=pairT p:=fun x hx=>(bk6 pp x.1).mp (by rw [← hm,List.map_map]; exact List.mem_map_of_mem (f:=fun y:Tr×V×V=>y.1) hx)
   have hkm:∀ p∈pp,pairT p∈m.map (·.1):=fun p hp=>by
    have:=(bk6 pp (pairT p)).mpr ⟨p,hp,rfl⟩
    rw [← hm,List.map_map] at this
    exact this
   have hval:∀ t,(valV (m.map fun x=>(x.1,x.2.2)) t).isSome=true↔∃ p∈pp,t=pairT p:=fun t=>by rw [hm]; exact hmem t
   refine bg4 (fun i σ H'=>i≤m.length∧Same H H'∧FzAt w.params H' d m o5∧(∀ (j:Nat) (x:Tr×V×V),j<i→m[j]?=some x→∀ p∈pp,x.1=pairT p→(roomOf rs p.1).1=(roomOf rs p.2).1∧∀ j,j<es.length→∃ q∈pp,mkP rs (rowOf rs p.1 j) (rowOf rs p.2 j)=some q)∧∃ y z,σ=[some (.ref o1),some (.ref o2),some (.ref ev),some (.ref pa),some (.ref d),y,z]) ⟨Nat.zero_le _,s05,fz,fun j x hj=>absurd hj (Nat.not_lt_zero _),_,_,rfl⟩ (fun i σ H' _ ⟨_,_,h,_⟩=>h.e) ?_ ?_
   · rintro i x σ H6 hx ⟨hi,s6,fz6,hg,y,z,rfl⟩
     obtain ⟨p,hp,ep⟩:=hmk x (List.mem_of_getElem? hx)
     have hxt:=(fz6.k x (List.mem_of_getElem? hx)).1
     rw [ep] at hxt
     obtain ⟨pk,epk,hpk⟩:=al1 hxt
     have hi':i<m.length:=(List.getElem?_eq_some_iff.mp hx).1
     obtain ⟨l1,l2⟩:=hlt p hp
     rw [epk]
     walk_at "r"
     have hT6:=hT.same s6
     have hP6:=hP.same s6
     obtain ⟨dx1,fs1,g1,_,_,g2⟩:=hT6.ins
     obtain ⟨dx2,fs2,g3,_,_,g4⟩:=hP6.ins
     refine ⟨o1,dx1,fs1,rfl,g1,g2,?_⟩
     walk_at "r"
     refine a65 (SqT.of hpk) (a04 (j:=0) rfl) ?_
     walk_at "r"
     refine hT6.ovr l1 ?_
     walk_at "r"
     refine ⟨o2,dx2,fs2,rfl,g3,g4,?_⟩
     walk_at "r"
     refine a65 (SqT.of hpk) (a04 (j:=1) rfl) ?_
     walk_at "r"
     refine hP6.ovr l2 ?_
     walk_at "r"
     by_cases ho:(roomOf rs p.1).1=(roomOf rs p.2).1
     rotate_left
     · rw [decide_eq_false ho]
       walk_at "r"
       exact q false H6 s6 ⟨fun z=>(nomatch z),fun z=>absurd (z.2 p hp).1 ho⟩
     rw [decide_eq_true ho]
     walk_at "r"
     refine ⟨⟨_,SqL.of (s6 _ _ hev)⟩,ac9 (K:=K) (a:=ev) (xs:=us) (fun j σ H'=>j≤es.length∧Same H6 H'∧FzAt w.params H' d m o5∧(∀ j',j'<j→∃ q∈pp,mkP rs (rowOf rs p.1 j') (rowOf rs p.2 j')=some q)∧∃ z,σ=[some (.ref o1),some (.ref o2),some (.ref ev),some (.ref pa),some (.ref d),some (.ref pk),z]) ⟨Nat.zero_le _,Same.refl _,fz6,fun j hj=>absurd hj (Nat.not_lt_zero _),_,rfl⟩ (fun j σ H' _ ⟨_,s',_⟩=>SqL.of ((s6.trans s') _ _ hev)) ?_ ?_⟩
     · rintro j v σ H7 hj ⟨hjl,s7,fz7,hq7,z,rfl⟩
       obtain ⟨tx,hx1,hx2⟩:=aa0 (hus.same (s6.trans s7)) hj
       rw [List.getElem?_map] at hx1
       obtain ⟨e,he,rfl⟩:=Option.map_eq_some_iff.mp hx1
       have hj':j<es.length:=(List.getElem?_eq_some_iff.mp he).1
       walk_at "r"
       refine ⟨o1,o2,pk,v,e,p.1,p.2,j,es,sy,rs,rfl,hT6.same s7,hP6.same s7,tb,s7 _ _ hpk,l1,l2,he,hx2,fun v8 H8 s8 hv8=>?_⟩
       have fz8:=fz7.same s8
       cases hmk8:mkP rs (rowOf rs p.1 j) (rowOf rs p.2 j) with
       | none =>
         rw [hmk8] at hv8
         obtain rfl:v8=.non:=hv8
         walk_at "r"
         refine ⟨d,_,.non,rfl,fz8.dt,⟨⟨rfl,rfl⟩,by simp [Tr.h]⟩,?_⟩
         rw [show (valV (m.map fun x=>(x.1,x.2.2)) Tr.non).isSome=false from by
          rw [Bool.eq_false_iff]
          intro z
          obtain ⟨p,hp,e⟩:=(hval _).mp z
          cases e]
         walk_at "r"
         refine q false H8 (s6.trans (s7.trans s8)) ⟨fun z=>(nomatch z),fun z=>?_⟩
         obtain ⟨q1,_,e⟩:=(z.2 p hp).2 j hj'
         rw [hmk8] at e
         cases e
       | some q1 =>
         rw [hmk8] at hv8
         obtain ⟨k8,rfl,e8⟩:=hv8
         walk_at "r"
         refine ⟨d,_,pairT q1,rfl,fz8.dt,⟨ae9 (a:=q1.1) (b:=q1.2) e8,by have:=ae3 q1; omega⟩,?_⟩
         by_cases hqm:q1∈pp
         · rw [(hval _).mpr ⟨q1,hqm,rfl⟩]
           walk_at "r"
           refine ⟨hj',s7.trans s8,fz8,fun j' hj2=>?_,_,rfl⟩
           rcases Nat.lt_or_eq_of_le (Nat.le_of_lt_succ hj2) with hlt2 | rfl
           · exact hq7 j' hlt2
           · exact ⟨q1,hqm,hmk8⟩
         · rw [show (valV (m.map fun x=>(x.1,x.2.2)) (pairT q1)).isSome=false from by
            rw [Bool.eq_false_iff]
            intro z
            obtain ⟨p,hp,e⟩:=(hval _).mp z
            exact hqm (pairT_inj e ▸ hp)]
           walk_at "r"
           refine q false H8 (s6.trans (s7.trans s8)) ⟨fun z=>(nomatch z),fun z=>?_⟩
           obtain ⟨q2,h2,e⟩:=(z.2 p hp).2 j hj'
           rw [hmk8] at e
           cases e
           exact absurd h2 hqm
     · rintro σ H7 ⟨_,s7,fz7,hq7,z,rfl⟩
       rw [ul] at hq7
       refine ⟨hi',s6.trans s7,fz7,fun j x' hj hx' p' hp' e'=>?_,_,_,rfl⟩
       rcases Nat.lt_or_eq_of_le (Nat.le_of_lt_succ hj) with hlt2 | rfl
       · exact hg j x' hlt2 hx' p' hp' e'
       · rw [hx] at hx'
         cases hx'
         obtain rfl:=pairT_inj (ep.symm.trans e')
         exact ⟨ho,hq7⟩
   · rintro σ H6 ⟨_,s6,fz6,hg,y,z,rfl⟩
     walk_at "r"
     refine q true H6 s6 ⟨fun _=>⟨h0,fun p hp=>?_⟩,fun _=>rfl⟩
     obtain ⟨x,hx,ex⟩:=List.mem_map.mp (hkm p hp)
     obtain ⟨j,hj,ej⟩:=List.mem_iff_getElem.mp hx
     exact hg j x hj (by rw [List.getElem?_eq_getElem hj,ej]) p hp ex
open Y (a67 a70 a61)
def c41:Sp:=fun _ _ _ _=>False
theorem bk8 (T:Txt K mg t):FnOk P w K mg base CX0 1 t.a_row_by t.fd_row_by ["ways","way"] c41:=by
 refine T.F_row_by.ok bi0 (fun vs H Q E h=>?_) (fun cdv A outer s H vs Q E hr h=>?_)
 · exact h.elim
 · exact h.elim
theorem nnr (k:Addr):decide (V.ref k=V.non)=false:=decide_eq_false (fun z=>nomatch z)
theorem nnn:decide (V.non=V.non)=true:=decide_eq_true rfl
def diagT (r:Nat):Tr:=pairT (r,r)
theorem bt1 {a b:Nat}(h:diagT a=diagT b):a=b:=(Prod.mk.inj (pairT_inj h)).1
theorem b67 (rs:List a60) (x:Row):mkP rs x x=some (x.2,x.2):=if_pos ⟨rfl,rfl⟩
theorem bt2 {H:Hp}{p:Addr}{xs:List V}{o:HO}(h:H p=some (.lst xs)):Tups H (upd H p o):=fun b ys e=>by rw [a09 (ag4 e h (fun z=>nomatch z))]; exact e
structure GoT (P:Params) (H:Hp) (pf wd:Addr) (row:List Nat):Prop where
 f:∃ fvs,H pf=some (.lst fvs)∧Tr.Ats H (row.map diagT) fvs []
 w:∃ kvs,DtAt P H wd kvs∧kvs.length≤row.length∧∀ t,(valV kvs t).isSome=true↔∃ r∈row,t=diagT r
theorem GoT.same {P:Params}{H H':Hp}{pf wd:Addr}{row:List Nat}(g:GoT P H pf wd row) (s:Same H H'):GoT P H' pf wd row:=by
 obtain ⟨⟨fvs,f1,f2⟩,kvs,k1,k2,k3⟩:=g
 exact ⟨⟨fvs,s _ _ f1,f2.same s⟩,kvs,a64 k1 s,k2,k3⟩
def c42 (K:PySem.W.Frag) (P:Params) (Ct Cp:Addr):Sp:=fun vs H Q _=>∃ (o1 o2 ev:Addr) (us:List V) (es:List Ev) (sy:List Str) (rs:List a60),vs=[.ref o1,.ref o2,.ref ev]∧TM P Ct H o1 es sy rs∧PM P Cp H o2 es sy rs∧Tabs es sy rs∧H ev=some (.lst us)∧Tr.Ats H (es.map Ev.tr) us []∧∀ tt pf fvs row H',Same H H'→H' tt=some (.tup [.ref pf,.non])→H' pf=some (.lst fvs)→Tr.Ats H' (row.map diagT) fvs []→Bf (nxR es rs) rs.length row.length row→0∈row→Q (.ref tt) H'
theorem ao6 (T:Txt K mg t):FnOk P w K mg base CX0 6 t.a_gone_through t.fd_gone_through ["one","other","events"] (c42 K w.params t.c_TableMachine t.c_PackMachine):=by
 have G_begun_pair:=ak1 (P:=P) (w:=w) (base:=base) T
 have G_row_by:=bk8 (P:=P) (w:=w) (base:=base) T
 have G_standings:=ax6 (P:=P) (w:=w) (base:=base) T
 have G_stepped_pair:=ah5 (P:=P) (w:=w) (base:=base) T
 refine T.F_gone_through.ok sc_gone_through (fun vs H Q E h=>?_) (fun cdv A outer s H vs Q E hr h=>?_)
 · obtain ⟨o1,o2,ev,us,es,sy,rs,rfl,_⟩:=h
   rfl
 · obtain ⟨o1,o2,ev,us,es,sy,rs,rfl,hT,hP,tb,hev,hus,q⟩:=h
   refine ⟨_,(@a02 _ _ _ _ _ (@ab3 _ _ _ _ (@a40 _ _ _ _ _ _ _ _ _ _ _ _ _ _ _ _ G_standings (hr.mono (by omega)) rfl T.m_standings T.F_standings.kp T.b_standings .nil a55 (@a00 _ _ _ _ _ (pv 0) (@a00 _ _ _ _ _ (pv 2) (@a01 _) (by rfl)) (by rfl)) (by decide) (by rfl) (by rfl)) (by rfl))
    (@a02 _ _ _ _ _ (@ab3 _ _ _ _ (@a40 _ _ _ _ _ _ _ _ _ _ _ _ _ _ _ _ G_standings (hr.mono (by omega)) rfl T.m_standings T.F_standings.kp T.b_standings .nil a55 (@a00 _ _ _ _ _ (pv 1) (@a00 _ _ _ _ _ (pv 2) (@a01 _) (by rfl)) (by rfl)) (by decide) (by rfl) (by rfl)) (by rfl))
    (@a02 _ _ _ _ _ (@a45 _ _ 3 _ _ _ _ sc_gone_through.nd rfl (by walk_at "o") (@a40 _ _ _ _ _ _ _ _ _ _ _ _ _ _ _ _ G_begun_pair (hr.mono (by omega)) rfl T.m_begun_pair T.F_begun_pair.kp T.b_begun_pair .nil a55 (@a00 _ _ _ _ _ (pv 0) (@a00 _ _ _ _ _ (pv 1) (@a01 _) (by rfl)) (by rfl)) (by decide) (by rfl) (by rfl)) (by rfl) (by walk_at "o"))
    (@a02 _ _ _ _ _ (@ad7 _ _ _ _ _ _ _ _ (@a62 _ _ _ _ _ _ _ _ am4 (pv 3) (@af0 _ _ _) (nomark _)) (@a06 _ _ _ (@a54 _ _ _ _ (@a66 _ _ _ _ _ (@a00 _ _ _ _ _ (@a48 _ _ _ _ (@a01 _)) (@a00 _ _ _ _ _ (@a48 _ _ _ _ (@a01 _)) (@a01 _) (by rfl)) (by rfl))))) (@a84 _))
    (@a02 _ _ _ _ _ (@a45 _ _ 4 _ _ _ _ sc_gone_through.nd rfl (by walk_at "o") (@a48 _ _ _ _ (@a00 _ _ _ _ _ (pv 3) (@a01 _) (by rfl))) (by rfl) (by walk_at "o"))
    (@a02 _ _ _ _ _ (@a45 _ _ 5 _ _ _ _ sc_gone_through.nd rfl (by walk_at "o") (bp5 (P:=w.params) rfl (by exact hr.units) (pv 3) (@af0 _ _ _)) (by rfl) (by walk_at "o"))
    (@a02 _ _ _ _ _ (@a45 _ _ 6 _ _ _ _ sc_gone_through.nd rfl (by walk_at "o") (@af0 _ _ _) (by rfl) (by walk_at "o"))
    (@a02 _ _ _ _ _ (@a45 _ _ 7 _ _ _ _ sc_gone_through.nd rfl (by walk_at "o") (@a03 _ _ _ _) (by rfl) (by walk_at "o"))
    (@a02 _ _ _ _ _ (@al7 _ _ _ _ _ _ PassesOwn.never (@a62 _ _ _ _ _ _ _ _ bv4 (pv 7) (@a59 _ _ _ _ _ _ _ _ _ (aa6 K) (by rfl) T.z_len ab9 (@a00 _ _ _ _ _ (pv 4) (@a01 _) (by rfl)) (by decide) (by decide) (by rfl) (by rfl)) (nomark _)) (@a02 _ _ _ _ _ (@ac2 _ _ _ _ _ _ _ _ PassesOwn.never rfl (a69 K (pv 2)) (a47 (i:=8) sc_gone_through.nd rfl (by walk_at "o")) (@a02 _ _ _ _ _ (@a45 _ _ 9 _ _ _ _ sc_gone_through.nd rfl (by walk_at "o") (@a40 _ _ _ _ _ _ _ _ _ _ _ _ _ _ _ _ G_stepped_pair (hr.mono (by omega)) rfl T.m_stepped_pair T.F_stepped_pair.kp T.b_stepped_pair .nil a55 (@a00 _ _ _ _ _ (pv 0) (@a00 _ _ _ _ _ (pv 1) (@a00 _ _ _ _ _ (@a44 _ _ _ _ _ _ _ (a42 K) (pv 4) (pv 7) (fun _ _=>rfl)) (@a00 _ _ _ _ _ (pv 8) (@a01 _) (by rfl)) (by rfl)) (by rfl)) (by rfl)) (by decide) (by rfl) (by rfl)) (by rfl) (by walk_at "o"))
     (@av3 _ _ _ _ _ (@ad7 _ _ _ _ _ _ _ _ (@PW.pt _ _ _ (@bt4 _ _ _ _ _ _ _ (@a62 _ _ _ _ _ _ _ _ am4 (pv 9) (@af0 _ _ _) (nomark _)) (@ba9 _ _ _ _ (@a62 _ _ _ _ _ _ _ _ am4 (pv 6) (@af0 _ _ _) (nomark _))))) (@a06 _ _ _ (@a45 _ _ 6 _ _ _ _ sc_gone_through.nd rfl (by walk_at "o") (@a66 _ _ _ _ _ (@a00 _ _ _ _ _ (@a44 _ _ _ _ _ _ _ (a42 K) (pv 4) (pv 7) (fun _ _=>rfl)) (@a00 _ _ _ _ _ (pv 8) (@a01 _) (by rfl)) (by rfl))) (by rfl) (by walk_at "o"))) (@a84 _))
     (@a06 _ _ _ (@ad7 _ _ _ _ _ _ _ _ (@PW.pt _ _ _ (@bt4 _ _ _ _ _ _ _ (@a62 _ _ _ _ _ _ _ _ bn9 (pv 9) (@af0 _ _ _) (nomark _)) (@ba9 _ _ _ _ (at8 (am8 (P:=w.params) rfl (by exact hr.units) (pv 9) (pv 5)))))) (@a02 _ _ _ _ _ (@ad7 _ _ _ _ _ _ _ _ (@a62 _ _ _ _ _ _ _ _ at9 (@a59 _ _ _ _ _ _ _ _ _ (aa6 K) (by rfl) T.z_len ab9 (@a00 _ _ _ _ _ (pv 4) (@a01 _) (by rfl)) (by decide) (by decide) (by rfl) (by rfl)) (ak2 (by rfl) T.m_MOST_STANDINGS (by exact T.r_MOST_STANDINGS)) (nomark _)) (@a06 _ _ _ b46) (@a84 _))
      (@a02 _ _ _ _ _ (as3 (P:=w.params) rfl (by exact hr.units) (pv 5) (pv 9) (@a66 _ _ _ _ _ (@a00 _ _ _ _ _ (@a44 _ _ _ _ _ _ _ (a42 K) (pv 4) (pv 7) (fun _ _=>rfl)) (@a00 _ _ _ _ _ (pv 8) (@a01 _) (by rfl)) (by rfl))) rfl)
      (@a06 _ _ _ (@ab3 _ _ _ _ (@af2 _ K _ _ _ _ _ _ _ _ _ _ _ PySem.F.plainAttrs_list PySem.F.slot_list_append PySem.F.type_list_append ad2 (pv 4) (@a00 _ _ _ _ _ (pv 9) (@a01 _) (by rfl)) (by rfl) (by rfl) (by rfl) (by rfl) (by rfl) (by rfl)) (by rfl))))) (@a84 _))))) (by intro _; rfl))
     (@a06 _ _ _ (@bb2 _ _ 7 _ _ _ _ _ _ sc_gone_through.nd rfl (by walk_at "o") (@a03 _ _ _ _) bb3 (by walk_at "o")))))
    (@a06 _ _ _ (@a54 _ _ _ _ (@a66 _ _ _ _ _ (@a00 _ _ _ _ _ (pv 4) (@a00 _ _ _ _ _ (@al6 _ _ _ _ _ _ _ _ (@a62 _ _ _ _ _ _ _ _ am4 (pv 6) (@af0 _ _ _) (nomark _)) (@af0 _ _ _) (@a40 _ _ _ _ _ _ _ _ _ _ _ _ _ _ _ _ G_row_by (hr.mono (by omega)) rfl T.m_row_by T.F_row_by.kp T.b_row_by .nil a55 (@a00 _ _ _ _ _ (pv 5) (@a00 _ _ _ _ _ (pv 6) (@a01 _) (by rfl)) (by rfl)) (by decide) (by rfl) (by rfl))) (@a01 _) (by rfl)) (by rfl)))))))))))))),?_⟩
   have ok:=tb.ok
   have hrs:=tb.r0
   have ul:us.length=es.length:=by rw [hus.len,List.length_map]
   have hx:=bu9 ok
   have o3:=ok.nr
   have sl:(1000000:Nat)≤sizeLine:=le_line (Nat.le_refl _)
   walk_at "go"
   refine ⟨o1,ev,us,es,sy,rs,rfl,.inl hT,tb,hev,hus,fun _ H1 s1=>?_⟩
   walk_at "r"
   refine ⟨o2,ev,us,es,sy,rs,rfl,.inr (hP.same s1),tb,s1 _ _ hev,hus.same s1,fun _ H2 s2=>?_⟩
   walk_at "r"
   have s02:=s1.trans s2
   refine ⟨o1,o2,es,sy,rs,rfl,hT.same s02,hP.same s02,tb,fun k3 H3 s3 e3=>?_⟩
   have s03:=s02.trans s3
   walk_at "r"
   rw [nnr]
   walk_at "r"
   intro pf H4 f4 s4 e4
   walk_at "r"
   intro wd o5 f5
   walk_at "r"
   have s5:Same H4 (upd H4 wd o5):=Same.new f5
   refine ⟨a41,diagT 0,⟨ae9 (a:=0) (b:=0) (s5 _ _ (s4 _ _ e3)),by have:=ae3 (0,0); unfold diagT; omega⟩,fun o6 hD=>?_⟩
   rw [as9] at hD
   have s6:Same H4 (upd H4 wd o6):=Same.new f5
   walk_at "r"
   rw [as9]
   have s06:=s03.trans (s4.trans s6)
   have fpf:H pf=none:=s03.free f4
   have fk:H wd=none:=(s03.trans s4).free f5
   have hne:pf≠wd:=a05 e4 f5
   have g0:GoT w.params (upd H4 wd o6) pf wd [0]:=⟨⟨_,s6 _ _ e4,ats_cons0.mpr ⟨_,_,rfl,ae9 (a:=0) (b:=0) (s6 _ _ (s4 _ _ e3)),ats_nil0.mpr rfl⟩⟩,_,hD,Nat.le_refl _,fun t=>by
    rw [at6,decide_eq_true_iff]
    simp⟩
   generalize upd H4 wd o6=H6 at s06 g0
   refine as0 (fun m σ H'=>Same H H'∧∃ (pl:Nat) (row:List Nat) (y z:Option V),σ=[some (.ref o1),some (.ref o2),some (.ref ev),some (.ref k3),some (.ref pf),some (.ref wd),some .non,some (.int (pl:Nat)),y,z]∧m=rs.length+1 - pl∧Bf (nxR es rs) rs.length pl row∧0∈row∧GoT w.params H' pf wd row) (rs.length+1) ⟨s06,0,[0],_,_,rfl,rfl,bf_0 hrs,by simp,g0⟩ ?_
   rintro m σ H7 ⟨s7,pl,row,y,z,rfl,rfl,hb,h0,g7⟩
   have hbl:=hb.le
   have hbf:=hb.few
   obtain ⟨⟨fvs7,f71,f72⟩,_⟩:=id g7
   have fl7:fvs7.length=row.length:=by rw [f72.len,List.length_map]
   walk_at "r"
   refine ad3 (SqL.of f71) ?_
   walk_at "r"
   rw [fl7]
   refine ite2 (fun hc=>?_) (fun hc=>?_)
   · have hpl:pl<row.length:=by have:=of_decide_eq_true hc; omega
     have ep:row[pl]?=some row[pl]:=List.getElem?_eq_getElem hpl
     have hkn:row[pl]<rs.length:=hb.lt _ (List.getElem_mem hpl)
     have nl:(nxR es rs row[pl]).length=es.length:=by simp [nxR]
     have h0':∀ ks,0∈addAll row ks∨¬ (∀ k∈ks,k<rs.length):=fun ks=>by
      by_cases hk:∀ k∈ks,k<rs.length
      · obtain ⟨⟨tl,h1⟩,_⟩:=ag9 hb.nd hb.lt ks hk
        exact .inl (by rw [h1]; exact List.mem_append_left _ h0)
      · exact .inr hk
     refine ⟨fun σ' H'=>Same H H'∧∃ (y z:Option V),σ'=[some (.ref o1),some (.ref o2),some (.ref ev),some (.ref k3),some (.ref pf),some (.ref wd),some .non,some (.int ((pl+1:Nat):Int)),y,z]∧GoT w.params H' pf wd (addAll row (nxR es rs row[pl])),fun σ' H' ⟨s',y,z,e,h1⟩=>⟨rs.length+1 - (pl+1),by omega,s',pl+1,addAll row (nxR es rs row[pl]),y,z,e,rfl,hb.step ep (hx _ hkn),(h0' _).resolve_right fun z=>z (hx _ hkn),h1⟩,?_⟩
     walk_at "r"
     refine ⟨⟨_,SqL.of (s7 _ _ hev)⟩,ac9 (K:=K) (a:=ev) (xs:=us) (fun j σ H'=>Same H H'∧j≤es.length∧GoT w.params H' pf wd (addAll row ((nxR es rs row[pl]).take j))∧∃ y z,σ=[some (.ref o1),some (.ref o2),some (.ref ev),some (.ref k3),some (.ref pf),some (.ref wd),some .non,some (.int (pl:Nat)),y,z]) ⟨s7,Nat.zero_le _,g7,_,_,rfl⟩ (fun j σ H' _ ⟨s',_⟩=>SqL.of (s' _ _ hev)) ?_ ?_⟩
     · rintro j v σ H8 hj ⟨s8,hjl,g8,y,z,rfl⟩
       obtain ⟨tx,hx1,hx2⟩:=aa0 (hus.same s8) hj
       rw [List.getElem?_map] at hx1
       obtain ⟨e,he,rfl⟩:=Option.map_eq_some_iff.mp hx1
       have hj':j<es.length:=(List.getElem?_eq_some_iff.mp he).1
       obtain ⟨r1,r2,r3⟩:=ad1 ok hkn hj'
       have hk:(nxR es rs row[pl])[j]?=some (rowOf rs row[pl] j).2:=by unfold nxR; rw [List.getElem?_map,List.getElem?_range hj']; rfl
       have hall:∀ x∈(nxR es rs row[pl]).take j,x<rs.length:=fun x hx'=>hx _ hkn x (List.mem_of_mem_take hx')
       have hfw:=bk3 hb.nd hb.lt hall
       have htk:(nxR es rs row[pl]).take (j+1)=(nxR es rs row[pl]).take j++[(rowOf rs row[pl] j).2]:=by rw [List.take_add_one,hk]; rfl
       have hgl:(addAll row ((nxR es rs row[pl]).take j))[pl]?=some row[pl]:=by
        obtain ⟨⟨tl,h1⟩,_⟩:=ag9 hb.nd hb.lt _ hall
        rw [h1,List.getElem?_append_left hpl,ep]
       obtain ⟨⟨fvs8,f81,f82⟩,_⟩:=id g8
       have fl8:fvs8.length=(addAll row ((nxR es rs row[pl]).take j)).length:=by rw [f82.len,List.length_map]
       have hpl8:pl<fvs8.length:=by rw [fl8]; exact (List.getElem?_eq_some_iff.mp hgl).1
       have hat:fvs8[pl]?=some fvs8[pl]:=List.getElem?_eq_getElem hpl8
       obtain ⟨tp,hp1,hp2⟩:=aa0 f82 hat
       rw [List.getElem?_map,hgl] at hp1
       cases hp1
       obtain ⟨pk,epk,hpk⟩:=al1 hp2
       rw [epk] at hat
       walk_at "r"
       refine a93 (SqL.of f81) (a04 (j:=pl) hat) ?_
       walk_at "r"
       refine ⟨o1,o2,pk,v,e,row[pl],row[pl],j,es,sy,rs,rfl,hT.same s8,hP.same s8,tb,hpk,hkn,hkn,he,hx2,fun v9 H9 s9 hv9=>?_⟩
       rw [b67] at hv9
       obtain ⟨k9,rfl,e9⟩:=hv9
       walk_at "r"
       refine bu0 (fun σ' H'=>H9=H'∧σ'=[some (.ref o1),some (.ref o2),some (.ref ev),some (.ref k3),some (.ref pf),some (.ref wd),some .non,some (.int (pl:Nat)),some v,some (.ref k9)]) ?_ ?_
       · walk_at "r"
         rw [nnr]
         walk_at "r"
         exact ⟨rfl,rfl⟩
       rintro σ' H' ⟨rfl,rfl⟩
       walk_at "r"
       rw [nnr]
       walk_at "r"
       have g9:=g8.same s9
       have s09:=s8.trans s9
       obtain ⟨⟨fvs9,f91,f92⟩,kvs9,d91,d92,d93⟩:=id g9
       have fl9:fvs9.length=(addAll row ((nxR es rs row[pl]).take j)).length:=by rw [f92.len,List.length_map]
       obtain rfl:fvs9=fvs8:=by
        have:=(s9 _ _ f81).symm.trans f91
        injection this with this
        injection this with this
        exact this.symm
       have tk9:TK H9 (diagT (rowOf rs row[pl] j).2) (.ref k9):=⟨ae9 e9,by have:=ae3 ((rowOf rs row[pl] j).2,(rowOf rs row[pl] j).2); unfold diagT; omega⟩
       refine ⟨wd,_,diagT (rowOf rs row[pl] j).2,rfl,d91,tk9,?_⟩
       generalize (rowOf rs row[pl] j).2=k at htk r2 tk9 e9 hk
       by_cases hm:k∈addAll row ((nxR es rs row[pl]).take j)
       · rw [(d93 _).mpr ⟨k,hm,rfl⟩]
         walk_at "r"
         refine ⟨s09,hj',?_,_,_,rfl⟩
         rw [htk,ab6,if_pos hm]
         exact g9
       · rw [show (valV kvs9 (diagT k)).isSome=false from by
          rw [Bool.eq_false_iff]
          intro z
          obtain ⟨r,hr,e⟩:=(d93 _).mp z
          exact hm (bt1 e ▸ hr)]
         walk_at "r"
         refine ad3 (SqL.of f91) ?_
         walk_at "r"
         rw [fl9]
         refine ite2 (fun hc=>?_) (fun hc=>?_)
         · exfalso
           have:=of_decide_eq_true hc
           omega
         walk_at "r"
         refine a93 (SqL.of f91) (a04 (j:=pl) hat) ?_
         walk_at "r"
         intro pt H10 f10 s10 e10
         walk_at "r"
         refine ⟨wd,_,diagT k,rfl,a64 d91 s10,tk9.mono s10.tups,by omega,fun o11 hD11=>?_⟩
         walk_at "r"
         have tw:Tups H10 (upd H10 wd o11):=by
          obtain ⟨φ,hφ⟩:=(a64 d91 s10).ext
          exact ah1 hφ
         have f11:upd H10 wd o11 pf=some (.lst fvs9):=by rw [a09 hne]; exact s10 _ _ f91
         refine aj4 (SqL.of f11) ?_
         walk_at "r"
         refine ae4 f11 (by omega) ?_
         have tl:=bt2 (o:=.lst (fvs9++[.ref k9])) f11
         refine ⟨((s09.trans s10).updNew fk).updNew fpf,hj',?_,_,_,rfl⟩
         rw [htk,ab6,if_neg hm]
         refine ⟨⟨_,a41,?_⟩,_,hD11.mono tl (a09 (Ne.symm hne)),?_,fun t=>?_⟩
         · rw [List.map_append]
           exact Tr.Ats.snoc (fs:=[]) (gs:=[]) (ad4 f92 ((s10.tups.trans tw).trans tl)) (ae1 tk9.1 ((s10.tups.trans tw).trans tl))
         · have:=a98 kvs9 (diagT k) (.ref pt)
           rw [List.length_append,List.length_singleton]
           omega
         · rw [at6,decide_eq_true_iff,bk5]
           have:=d93 t
           rw [at6,decide_eq_true_iff] at this
           rw [this]
           constructor
           · rintro (⟨r,hr,e⟩ | e)
             · exact ⟨r,List.mem_append_left _ hr,e⟩
             · exact ⟨k,by simp,e⟩
           · rintro ⟨r,hr,e⟩
             rcases List.mem_append.mp hr with hr | hr
             · exact .inl ⟨r,hr,e⟩
             · rw [List.mem_singleton.mp hr] at e
               exact .inr e
     · rintro σ H8 ⟨s8,hjl,g8,y,z,rfl⟩
       rw [ul,←nl,List.take_length] at g8
       refine bu1 rfl ?_
       exact ⟨s8,_,_,rfl,g8⟩
   · have hpl:pl=row.length:=by
      have:¬ pl<row.length:=fun z=>hc (decide_eq_true (by omega))
      omega
     walk_at "r"
     rw [nnn]
     walk_at "r"
     intro pt H8 f8 s8 e8
     exact q pt pf fvs7 row H8 (s7.trans s8) e8 (s8 _ _ f71) (f72.same s8) (hpl ▸ hb) h0
def bk9 (K:PySem.W.Frag) (P:Params) (Ct Cp:Addr):Sp:=fun vs H Q _=>∃ (o1 o2 ev:Addr) (us:List V) (es:List Ev) (sy:List Str) (rs:List a60),vs=[.ref o1,.ref o2,.ref ev]∧TM P Ct H o1 es sy rs∧PM P Cp H o2 es sy rs∧Tabs es sy rs∧H ev=some (.lst us)∧Tr.Ats H (es.map Ev.tr) us []∧∀ pf fvs row H',Same H H'→H' pf=some (.lst fvs)→Tr.Ats H' (row.map diagT) fvs []→Bf (nxR es rs) rs.length row.length row→0∈row→Q (.ref pf) H'
theorem ap2 (T:Txt K mg t):FnOk P w K mg base CX0 7 t.a_found_paper t.fd_found_paper ["one","other","events"] (bk9 K w.params t.c_TableMachine t.c_PackMachine):=by
 have G_gone_through:=ao6 (P:=P) (w:=w) (base:=base) T
 refine T.F_found_paper.ok sc_found_paper (fun vs H Q E h=>?_) (fun cdv A outer s H vs Q E hr h=>?_)
 · obtain ⟨o1,o2,ev,us,es,sy,rs,rfl,_⟩:=h
   rfl
 · obtain ⟨o1,o2,ev,us,es,sy,rs,rfl,hT,hP,tb,hev,hus,q⟩:=h
   refine ⟨_,(@a02 _ _ _ _ _ (@a45 _ _ 3 _ _ _ _ sc_found_paper.nd rfl (by walk_at "o") (@a40 _ _ _ _ _ _ _ _ _ _ _ _ _ _ _ _ G_gone_through (hr.mono (by omega)) rfl T.m_gone_through T.F_gone_through.kp T.b_gone_through .nil a55 (@a00 _ _ _ _ _ (pv 0) (@a00 _ _ _ _ _ (pv 1) (@a00 _ _ _ _ _ (pv 2) (@a01 _) (by rfl)) (by rfl)) (by rfl)) (by decide) (by rfl) (by rfl)) (by rfl) (by walk_at "o"))
    (@a06 _ _ _ (@a54 _ _ _ _ (@al6 _ _ _ _ _ _ _ _ (@a62 _ _ _ _ _ _ _ _ am4 (@a44 _ _ _ _ _ _ _ (a08 K) (pv 3) (@a03 _ _ _ _) (fun _ _=>rfl)) (@af0 _ _ _) (nomark _)) (@a44 _ _ _ _ _ _ _ (a08 K) (pv 3) (@a03 _ _ _ _) (fun _ _=>rfl)) (@af0 _ _ _))))),?_⟩
   walk_at "go"
   refine ⟨o1,o2,ev,us,es,sy,rs,rfl,hT,hP,tb,hev,hus,fun tt pf fvs row H1 s1 e1 e2 h3 h4 h5=>?_⟩
   walk_at "r"
   refine a65 (SqT.of e1) (a04 (j:=1) rfl) ?_
   walk_at "r"
   rw [nnn]
   walk_at "r"
   refine a65 (SqT.of e1) (a04 (j:=0) rfl) ?_
   exact q pf fvs row H1 s1 e2 h3 h4 h5
def ntT (k:Nat):Tr:=.int (k:Nat)
theorem ce3 {H:Hp}:∀ ks:List Nat,Tr.Ats H (ks.map ntT) (natsV ks) []
 | []=>by simp [natsV,Tr.Ats]
 | k::ks=>ats_cons0.mpr ⟨_,_,rfl,am5,ce3 ks⟩
theorem ce4:∀ ks:List Nat,Tr.hs (ks.map ntT)≤1
 | []=>by simp [Tr.hs]
 | k::ks=>by
   have:=ce4 ks
   simp only [List.map_cons,Tr.hs,ntT,Tr.h]
   omega
theorem nt_mem {k:Nat}{ks:List Nat}:ntT k∈ks.map ntT↔k∈ks:=by
 simp only [List.mem_map]
 exact ⟨fun ⟨x,h,e⟩=>by simp only [ntT,Tr.int.injEq] at e; exact (show x=k by omega) ▸ h,fun h=>⟨k,h,rfl⟩⟩
def ClP (es:List Ev) (rs:List a60) (row:List Nat) (k:Nat):Prop:=∀ j,j<es.length→(rowOf rs k j).2∈row
structure Cm (es:List Ev) (rs:List a60) (row du:List Nat) (x:Nat→Prop):Prop where
 nd:row.Nodup
 lt:∀ k∈row,k<rs.length
 z:0∈row
 dr:∀ k∈du,k∈row
 cl:∀ k∈row,x k∨k∈du∨ClP es rs row k
theorem Cm.few {es:List Ev}{rs:List a60}{row du:List Nat}{x:Nat→Prop}(h:Cm es rs row du x):row.length≤rs.length:=pigeon _ _ h.nd h.lt
theorem Cm.add {es:List Ev}{rs:List a60}{row du:List Nat}{x:Nat→Prop}(h:Cm es rs row du x) {k:Nat}(hk:k∉row) (hl:k<rs.length):Cm es rs (row++[k]) (du++[k]) x:=by
 refine ⟨ay5 h.nd hk,fun y hy=>?_,List.mem_append_left _ h.z,fun y hy=>?_,fun y hy=>?_⟩
 · rcases List.mem_append.mp hy with hy | hy
   · exact h.lt y hy
   · rw [List.mem_singleton.mp hy]; exact hl
 · rcases List.mem_append.mp hy with hy | hy
   · exact List.mem_append_left _ (h.dr y hy)
   · exact List.mem_append_right _ hy
 · rcases List.mem_append.mp hy with hy | hy
   · rcases h.cl y hy with a | a | a
     · exact .inl a
     · exact .inr (.inl (List.mem_append_left _ a))
     · exact .inr (.inr fun j hj=>List.mem_append_left _ (a j hj))
   · exact .inr (.inl (List.mem_append_right _ hy))
def c43 (K:PySem.W.Frag):Sp:=fun vs H Q _=>∃ (c:Addr) (rvs:List V) (gs:List Addr) (es:List Ev) (sy:List Str) (rs:List a60),vs=[.ref c]∧H c=some (.lst rvs)∧Tw.Ats H (rs.map roomW) rvs gs∧Tabs es sy rs∧∀ pf row H',H pf=none→Same H H'→H' pf=some (.lst (natsV row))→Cm es rs row [] (fun _=>False)→Q (.ref pf) H'
theorem ap3 (T:Txt K mg t):FnOk P w K mg base CX0 1 t.a__law_come_to t.fd__law_come_to ["rooms"] (c43 K):=by
 refine T.F__law_come_to.ok sc_law_come_to (fun vs H Q E h=>?_) (fun cdv A outer s H vs Q E hr h=>?_)
 · obtain ⟨c,rvs,gs,es,sy,rs,rfl,_⟩:=h
   rfl
 · obtain ⟨c,rvs,gs,es,sy,rs,rfl,hc0,hrv,tb,q⟩:=h
   refine ⟨_,(@a02 _ _ _ _ _ (@a45 _ _ 1 _ _ _ _ sc_law_come_to.nd rfl (by walk_at "o") (@a48 _ _ _ _ (@a00 _ _ _ _ _ (@a03 _ _ _ _) (@a01 _) (by rfl))) (by rfl) (by walk_at "o"))
    (@a02 _ _ _ _ _ (@a45 _ _ 2 _ _ _ _ sc_law_come_to.nd rfl (by walk_at "o") (@a48 _ _ _ _ (@a00 _ _ _ _ _ (@a03 _ _ _ _) (@a01 _) (by rfl))) (by rfl) (by walk_at "o"))
    (@a02 _ _ _ _ _ (@al7 _ _ _ _ _ _ PassesOwn.never (@a62 _ _ _ _ _ _ _ _ (bf7 K (by exact hr.units)) (pv 2) (@a48 _ _ _ _ (@a01 _)) (nomark _)) (@a02 _ _ _ _ _ (@a45 _ _ 3 _ _ _ _ sc_law_come_to.nd rfl (by walk_at "o") (bx0 K PySem.F.plainAttrs_list PySem.F.slot_list_pop PySem.F.type_list_pop c66 (pv 2)) (by rfl) (by walk_at "o"))
     (@a06 _ _ _ (@ac2 _ _ _ _ _ _ _ _ PassesOwn.never rfl (a69 K (@a44 _ _ _ _ _ _ _ (a08 K) (@a44 _ _ _ _ _ _ _ (a42 K) (pv 0) (pv 3) (fun _ _=>rfl)) (@a03 _ _ _ _) (fun _ _=>rfl))) (ae7 K (n:=2) rfl (a71 (a47 (i:=4) sc_law_come_to.nd rfl (by walk_at "o")) (a71 (a47 (i:=5) sc_law_come_to.nd rfl (by walk_at "o")) (@ae5 _)))) (@a06 _ _ _ (@ad7 _ _ _ _ _ _ _ _ (@a62 _ _ _ _ _ _ _ _ (ak6 K (by exact hr.units)) (pv 5) (pv 1) (by with_unfolding_all rfl)) (@a02 _ _ _ _ _ (@ab3 _ _ _ _ (@af2 _ K _ _ _ _ _ _ _ _ _ _ _ PySem.F.plainAttrs_list PySem.F.slot_list_append PySem.F.type_list_append ad2 (pv 1) (@a00 _ _ _ _ _ (pv 5) (@a01 _) (by rfl)) (by rfl) (by rfl) (by rfl) (by rfl) (by rfl) (by rfl)) (by rfl))
      (@a06 _ _ _ (@ab3 _ _ _ _ (@af2 _ K _ _ _ _ _ _ _ _ _ _ _ PySem.F.plainAttrs_list PySem.F.slot_list_append PySem.F.type_list_append ad2 (pv 2) (@a00 _ _ _ _ _ (pv 5) (@a01 _) (by rfl)) (by rfl) (by rfl) (by rfl) (by rfl) (by rfl) (by rfl)) (by rfl)))) (@a84 _))) (by intro _; rfl)))))
    (@a06 _ _ _ (@a54 _ _ _ _ (pv 1)))))),?_⟩
   have ok:=tb.ok
   have o3:=ok.nr
   have o1:=ok.ne
   have sl:(1000000:Nat)≤sizeLine:=le_line (Nat.le_refl _)
   have rl:rvs.length=rs.length:=by rw [hrv.len,List.length_map]
   walk_at "go"
   intro pf H1 f1 s1 e1
   walk_at "r"
   intro pd H2 f2 s2 e2
   walk_at "r"
   have fd:H pd=none:=s1.free f2
   have hne:pf≠pd:=a05 e1 f2
   refine as0 (fun m σ H'=>Same H H'∧∃ (row du:List Nat) (y3 y4 y5:Option V),σ=[some (.ref c),some (.ref pf),some (.ref pd),y3,y4,y5]∧m=2*(rs.length - row.length)+du.length∧2*(rs.length - row.length)+du.length≤2*rs.length+1∧H' pf=some (.lst (natsV row))∧H' pd=some (.lst (natsV du))∧Cm es rs row du (fun _=>False)) (2*(rs.length - 1)+1) ⟨s1.trans s2,[0],[0],_,_,_,rfl,rfl,by simp only [List.length_singleton]; omega,s2 _ _ e1,e2,⟨by simp,fun k hk=>by rw [List.mem_singleton.mp hk]; exact tb.r0,by simp,fun k hk=>hk,fun k hk=>.inr (.inl hk)⟩⟩ ?_
   rintro m σ H3 ⟨s3,row,du,y3,y4,y5,rfl,rfl,hbd,hpf,hpd,cm⟩
   have fw:=cm.few
   walk_at "r"
   intro pn H4 f4 s4 e4
   refine by7 (SqL.of (s4 _ _ hpd)) (SqL.of e4) ?_
   walk_at "r"
   have s04:=s3.trans s4
   rcases List.eq_nil_or_concat du with rfl | ⟨du0,room,rfl⟩
   · rw [show (natsV ([]:List Nat)).isEmpty=true from rfl]
     walk_at "r"
     exact q pf row H4 f1 s04 (s4 _ _ hpf) cm
   · rw [List.concat_eq_append] at *
     rw [show (natsV (du0++[room])).isEmpty=false by simp [natsV]]
     walk_at "r"
     have hroom:=cm.lt room (cm.dr room (by simp))
     refine ⟨fun σ' H'=>Same H H'∧∃ (row' du':List Nat) (y3 y4 y5:Option V),σ'=[some (.ref c),some (.ref pf),some (.ref pd),y3,y4,y5]∧2*(rs.length - row'.length)+du'.length≤2*(rs.length - row.length)+du0.length∧H' pf=some (.lst (natsV row'))∧H' pd=some (.lst (natsV du'))∧Cm es rs row' du' (fun _=>False),fun σ' H' ⟨s',row',du',y3,y4,y5,e,h1,h2,h3,h4⟩=>⟨_,by simp only [List.length_append,List.length_singleton]; omega,s',row',du',y3,y4,y5,e,rfl,by simp only [List.length_append,List.length_singleton] at hbd; omega,h2,h3,h4⟩,?_⟩
     walk_at "r"
     refine aj4 (SqL.of (s4 _ _ hpd)) ?_
     walk_at "r"
     refine ch2 (xs:=natsV du0) (y:=.int (room:Nat)) (by rw [s4 _ _ hpd,ac0]) ?_
     walk_at "r"
     have s5:Same H (upd H4 pd (.lst (natsV du0))):=s04.updNew fd
     have hpf5:upd H4 pd (.lst (natsV du0)) pf=some (.lst (natsV row)):=by rw [a09 hne]; exact s4 _ _ hpf
     have hpd5:upd H4 pd (.lst (natsV du0)) pd=some (.lst (natsV du0)):=a41
     generalize upd H4 pd (.lst (natsV du0))=H5 at s5 hpf5 hpd5
     have hir:rs[room]?=some (roomOf rs room):=ad5 hroom
     have hi':room<rvs.length:=by omega
     obtain ⟨tx2,fx,hx1,hx2,_⟩:=hrv.get room rvs[room] (List.getElem?_eq_getElem hi')
     rw [List.getElem?_map,hir] at hx1
     cases hx1
     obtain ⟨rq,g,ps,gs1,hrq,k1,k2,k3,_⟩:=room_w.mp hx2
     have hat:rvs[room]?=some (.ref rq):=by rw [List.getElem?_eq_getElem hi',hrq]
     have psl:ps.length=es.length:=by rw [k3.len,List.length_map]; exact (ok.ok _ (List.mem_of_getElem? hir)).1
     refine a93 (SqL.of (s5 _ _ hc0)) (a04 hat) ?_
     walk_at "r"
     refine a65 (SqT.of (s5 _ _ k1)) (a04 (j:=1) rfl) ?_
     walk_at "r"
     have cm0:Cm es rs row du0 (fun k=>k=room):=⟨cm.nd,cm.lt,cm.z,fun k hk=>cm.dr k (by simp [hk]),fun k hk=>by
      rcases cm.cl k hk with a | a | a
      · exact a.elim
      · rcases List.mem_append.mp a with a | a
        · exact .inr (.inl a)
        · exact .inl (List.mem_singleton.mp a)
      · exact .inr (.inr a)⟩
     refine ⟨⟨_,SqL.of (s5 _ _ k2)⟩,ac9 (K:=K) (a:=g) (xs:=ps) (fun j σ H'=>j≤es.length∧Same H H'∧∃ (row' du':List Nat) (y4 y5:Option V),σ=[some (.ref c),some (.ref pf),some (.ref pd),some (.int (room:Nat)),y4,y5]∧2*(rs.length - row'.length)+du'.length≤2*(rs.length - row.length)+du0.length∧H' pf=some (.lst (natsV row'))∧H' pd=some (.lst (natsV du'))∧Cm es rs row' du' (fun k=>k=room)∧∀ j',j'<j→(rowOf rs room j').2∈row') ⟨Nat.zero_le _,s5,row,du0,_,_,rfl,Nat.le_refl _,hpf5,hpd5,cm0,fun j hj=>absurd hj (Nat.not_lt_zero _)⟩ (fun j σ H' _ ⟨_,s',_⟩=>SqL.of (s' _ _ k2)) ?_ ?_⟩
     · rintro j v σ H6 hj ⟨hjl,s6,row',du',y4,y5,rfl,hms,hpf6,hpd6,cm6,hin⟩
       have hj':j<es.length:=by have:=(List.getElem?_eq_some_iff.mp hj).1; omega
       obtain ⟨tx,fx,hy1,hy2,_⟩:=(k3.same s6).get j v hj
       obtain ⟨r1,r2,_⟩:=ad1 ok hroom hj'
       rw [List.getElem?_map,r1] at hy1
       cases hy1
       obtain ⟨xk,xl,rfl,hxe,hxl,_⟩:=row_w.mp hy2
       refine am3 (SqT.of hxe) rfl ?_
       walk_at "r"
       have fw6:=cm6.few
       refine as4 (t:=ntT (rowOf rs room j).2) (ts:=row'.map ntT) am5 (SqL.of hpf6) (ce3 row') (by simp [ntT,Tr.h]) (by have:=ce4 row'; omega) ?_
       walk_at "r"
       generalize hkk:(rowOf rs room j).2=k at r2 ⊢
       by_cases hm:k∈row'
       · rw [decide_eq_true (nt_mem.mpr hm)]
         walk_at "r"
         refine ⟨hj',s6,row',du',_,_,rfl,hms,hpf6,hpd6,cm6,fun j' hj2=>?_⟩
         rcases Nat.lt_or_eq_of_le (Nat.le_of_lt_succ hj2) with h | rfl
         · exact hin j' h
         · rw [hkk]; exact hm
       · rw [decide_eq_false fun z=>hm (nt_mem.mp z)]
         walk_at "r"
         refine aj4 (SqL.of hpf6) ?_
         walk_at "r"
         refine ae4 hpf6 (by rw [a56]; omega) ?_
         walk_at "r"
         have hpd7:upd H6 pf (.lst (natsV row'++[.int (k:Nat)])) pd=some (.lst (natsV du')):=by rw [a09 (Ne.symm hne)]; exact hpd6
         refine aj4 (SqL.of hpd7) ?_
         walk_at "r"
         have cm7:=cm6.add hm r2
         have fw7:=cm7.few
         rw [List.length_append,List.length_singleton] at fw7
         refine ae4 hpd7 (by rw [a56]; simp only [List.length_append,List.length_singleton] at hbd; omega) ?_
         refine ⟨hj',(s6.updNew f1).updNew fd,row'++[k],du'++[k],_,_,rfl,by simp only [List.length_append,List.length_singleton]; omega,?_,?_,cm7,fun j' hj2=>?_⟩
         · rw [a09 hne,a41,ac0]
         · rw [a41,ac0]
         · rcases Nat.lt_or_eq_of_le (Nat.le_of_lt_succ hj2) with h | rfl
           · exact List.mem_append_left _ (hin j' h)
           · rw [hkk]; simp
     · rintro σ H6 ⟨_,s6,row',du',y4,y5,rfl,hms,hpf6,hpd6,cm6,hin⟩
       rw [psl] at hin
       refine ⟨s6,row',du',_,_,_,rfl,hms,hpf6,hpd6,cm6.nd,cm6.lt,cm6.z,cm6.dr,fun k hk=>?_⟩
       rcases cm6.cl k hk with rfl | a | a
       · exact .inr (.inr hin)
       · exact .inr (.inl a)
       · exact .inr (.inr a)
def LawR (es:List Ev) (rs:List a60) (pp:List (Nat×Nat)):Prop:=(0,0)∈pp∧∀ p∈pp,(roomOf rs p.1).1=(roomOf rs p.2).1∧∀ j,j<es.length→(rowOf rs p.1 j).1=(rowOf rs p.2 j).1∧((rowOf rs p.1 j).2,(rowOf rs p.2 j).2)∈pp
theorem bl0 {es:List Ev}{rs:List a60}{pp:List (Nat×Nat)}:RightP es rs pp↔LawR es rs pp:=by
 constructor
 · rintro ⟨h0,h⟩
   refine ⟨h0,fun p hp=>⟨(h p hp).1,fun j hj=>?_⟩⟩
   obtain ⟨q,hq,e⟩:=(h p hp).2 j hj
   unfold mkP at e
   split at e
   · rename_i hc
     cases e
     exact ⟨hc.1,hq⟩
   · cases e
 · rintro ⟨h0,h⟩
   refine ⟨h0,fun p hp=>⟨(h p hp).1,fun j hj=>?_⟩⟩
   obtain ⟨h1,h2⟩:=(h p hp).2 j hj
   exact ⟨_,h2,if_pos ⟨h1,(h _ h2).1⟩⟩
theorem b68:∀ l:List (Nat×Nat),Tr.hs (l.map pairT)≤1
 | []=>by simp [Tr.hs]
 | x::l=>by
   have:=b68 l
   simp only [List.map_cons,Tr.hs,pairT,Tr.h]
   omega
theorem pair_mem {p:Nat×Nat}{l:List (Nat×Nat)}:pairT p∈l.map pairT↔p∈l:=by
 rw [List.mem_map]
 exact ⟨fun ⟨x,h,e⟩=>pairT_inj e ▸ h,fun h=>⟨p,h,rfl⟩⟩
def bl1 (K:PySem.W.Frag):Sp:=fun vs H Q _=>∃ (c pa:Addr) (rvs pvs:List V) (gs:List Addr) (es:List Ev) (sy:List Str) (rs:List a60) (pp:List (Nat×Nat)),vs=[.ref c,.ref pa]∧H c=some (.lst rvs)∧Tw.Ats H (rs.map roomW) rvs gs∧Tabs es sy rs∧H pa=some (.lst pvs)∧Tr.Ats H (pp.map pairT) pvs []∧pp.length≤1000∧(∀ p∈pp,p.1<rs.length∧p.2<rs.length)∧∀ (b:Bool) H',Same H H'→(b=true↔LawR es rs pp)→Q (.bl b) H'
theorem ax8 (T:Txt K mg t):FnOk P w K mg base CX0 1 t.a__law_right t.fd__law_right ["rooms","paper"] (bl1 K):=by
 refine T.F__law_right.ok sc_law_right (fun vs H Q E h=>?_) (fun cdv A outer s H vs Q E hr h=>?_)
 · obtain ⟨c,pa,rvs,pvs,gs,es,sy,rs,pp,rfl,_⟩:=h
   rfl
 · obtain ⟨c,pa,rvs,pvs,gs,es,sy,rs,pp,rfl,hc0,hrv,tb,hpa,hpv,hpl,hlt,q⟩:=h
   refine ⟨_,(@a02 _ _ _ _ _ (@ad7 _ _ _ _ _ _ _ _ (@a62 _ _ _ _ _ _ _ _ (ak6 K (by exact hr.units)) (@a66 _ _ _ _ _ (@a00 _ _ _ _ _ (@a03 _ _ _ _) (@a00 _ _ _ _ _ (@a03 _ _ _ _) (@a01 _) (by rfl)) (by rfl))) (pv 1) (by with_unfolding_all rfl)) (@a06 _ _ _ (@a54 _ _ _ _ (@ag5 _ _ _ _))) (@a84 _))
    (@a02 _ _ _ _ _ (@ac2 _ _ _ _ _ _ _ _ PassesOwn.never rfl (a69 K (pv 1)) (ae7 K (n:=2) rfl (a71 (a47 (i:=2) sc_law_right.nd rfl (by walk_at "o")) (a71 (a47 (i:=3) sc_law_right.nd rfl (by walk_at "o")) (@ae5 _)))) (@a02 _ _ _ _ _ (@ad7 _ _ _ _ _ _ _ _ (@a62 _ _ _ _ _ _ _ _ bl7 (@a44 _ _ _ _ _ _ _ (a08 K) (@a44 _ _ _ _ _ _ _ (a42 K) (pv 0) (pv 2) (fun _ _=>rfl)) (@a03 _ _ _ _) (fun _ _=>rfl)) (@a44 _ _ _ _ _ _ _ (a08 K) (@a44 _ _ _ _ _ _ _ (a42 K) (pv 0) (pv 3) (fun _ _=>rfl)) (@a03 _ _ _ _) (fun _ _=>rfl)) (nomark _)) (@a06 _ _ _ (@a54 _ _ _ _ (@ag5 _ _ _ _))) (@a84 _))
     (@a06 _ _ _ (@ac2 _ _ _ _ _ _ _ _ PassesOwn.never rfl (bu2 K rfl T.z_zip (@a00 _ _ _ _ _ (@a44 _ _ _ _ _ _ _ (a08 K) (@a44 _ _ _ _ _ _ _ (a42 K) (pv 0) (pv 2) (fun _ _=>rfl)) (@a03 _ _ _ _) (fun _ _=>rfl)) (@a00 _ _ _ _ _ (@a44 _ _ _ _ _ _ _ (a08 K) (@a44 _ _ _ _ _ _ _ (a42 K) (pv 0) (pv 3) (fun _ _=>rfl)) (@a03 _ _ _ _) (fun _ _=>rfl)) (@a01 _) (by rfl)) (by rfl))) (ae7 K (n:=2) rfl (a71 (a47 (i:=4) sc_law_right.nd rfl (by walk_at "o")) (a71 (a47 (i:=5) sc_law_right.nd rfl (by walk_at "o")) (@ae5 _)))) (@a06 _ _ _ (@ad7 _ _ _ _ _ _ _ _ (@PW.pt _ _ _ (@bl5 _ _ _ _ _ _ _ (@a62 _ _ _ _ _ _ _ _ (be2 K (by exact hr.units0)) (@a44 _ _ _ _ _ _ _ (a08 K) (pv 4) (@a03 _ _ _ _) (fun _ _=>rfl)) (@a44 _ _ _ _ _ _ _ (a08 K) (pv 5) (@a03 _ _ _ _) (fun _ _=>rfl)) (nomark _)) (@b45 _ _ _ _ (@a62 _ _ _ _ _ _ _ _ (ak6 K (by exact hr.units)) (@a66 _ _ _ _ _ (@a00 _ _ _ _ _ (@a44 _ _ _ _ _ _ _ (a08 K) (pv 4) (@a03 _ _ _ _) (fun _ _=>rfl)) (@a00 _ _ _ _ _ (@a44 _ _ _ _ _ _ _ (a08 K) (pv 5) (@a03 _ _ _ _) (fun _ _=>rfl)) (@a01 _) (by rfl)) (by rfl))) (pv 1) (by with_unfolding_all rfl))))) (@a06 _ _ _ (@a54 _ _ _ _ (@ag5 _ _ _ _))) (@a84 _))) (by intro _; rfl)))) (by intro _; rfl))
    (@a06 _ _ _ (@a54 _ _ _ _ (@ag5 _ _ _ _))))),?_⟩
   have ok:=tb.ok
   have rl:rvs.length=rs.length:=by rw [hrv.len,List.length_map]
   have hs:=b68 pp
   have rmAt:∀ {n:Nat},n<rs.length→∃ rq g ps gs1,rvs[n]?=some (.ref rq)∧H rq=some (.tup [.bl (roomOf rs n).1,.ref g])∧H g=some (.lst ps)∧Tw.Ats H ((roomOf rs n).2.map rowW) ps gs1∧ps.length=es.length:=fun {n} hn=>by
    have hi':n<rvs.length:=by omega
    obtain ⟨tx2,fx,hx1,hx2,_⟩:=hrv.get n rvs[n] (List.getElem?_eq_getElem hi')
    rw [List.getElem?_map,ad5 hn] at hx1
    cases hx1
    obtain ⟨rq,g,ps,gs1,hrq,k1,k2,k3,_⟩:=room_w.mp hx2
    exact ⟨rq,g,ps,gs1,by rw [List.getElem?_eq_getElem hi',hrq],k1,k2,k3,by rw [k3.len,List.length_map]; exact (ok.ok _ (List.mem_of_getElem? (ad5 hn))).1⟩
   walk_at "go"
   intro p1 H1 f1 s1 e1
   walk_at "r"
   refine as4 (ae9 (a:=0) (b:=0) e1) (SqL.of (s1 _ _ hpa)) (hpv.mono (s1.keep _)) (by have:=ae3 (0,0); omega) (by omega) ?_
   walk_at "r"
   by_cases h0:(0,0)∈pp
   rotate_left
   · rw [decide_eq_false fun z=>h0 (pair_mem.mp z)]
     walk_at "r"
     exact q false H1 s1 ⟨fun z=>(nomatch z),fun z=>absurd z.1 h0⟩
   rw [decide_eq_true (pair_mem.mpr h0)]
   walk_at "r"
   refine ⟨⟨_,SqL.of (s1 _ _ hpa)⟩,ac9 (K:=K) (a:=pa) (xs:=pvs) (fun i σ H'=>i≤pp.length∧Same H H'∧(∀ (i':Nat) (p:Nat×Nat),i'<i→pp[i']?=some p→(roomOf rs p.1).1=(roomOf rs p.2).1∧∀ j,j<es.length→(rowOf rs p.1 j).1=(rowOf rs p.2 j).1∧((rowOf rs p.1 j).2,(rowOf rs p.2 j).2)∈pp)∧∃ y3 y4 y5 y6,σ=[some (.ref c),some (.ref pa),y3,y4,y5,y6]) ⟨Nat.zero_le _,s1,fun i p hi=>absurd hi (Nat.not_lt_zero _),_,_,_,_,rfl⟩ (fun i σ H' _ ⟨_,s',_⟩=>SqL.of (s' _ _ hpa)) ?_ ?_⟩
   · rintro i v σ H2 hv ⟨hi,s2,hg,y3,y4,y5,y6,rfl⟩
     obtain ⟨tx,hx1,hx2⟩:=aa0 hpv hv
     rw [List.getElem?_map] at hx1
     obtain ⟨p,hp,rfl⟩:=Option.map_eq_some_iff.mp hx1
     have hi':i<pp.length:=(List.getElem?_eq_some_iff.mp hp).1
     have hpm:=List.mem_of_getElem? hp
     obtain ⟨pk,rfl,hpk⟩:=al1 hx2
     obtain ⟨l1,l2⟩:=hlt p hpm
     obtain ⟨rq,g,ps,gs1,a1,a2,a3,a4,a5⟩:=rmAt l1
     obtain ⟨rq',g',ps',gs1',b1,b2,b3,b4,b5⟩:=rmAt l2
     refine am3 (SqT.of (s2 _ _ hpk)) rfl ?_
     walk_at "r"
     refine a93 (SqL.of (s2 _ _ hc0)) (a04 a1) ?_
     walk_at "r"
     refine a65 (SqT.of (s2 _ _ a2)) (a04 (j:=0) rfl) ?_
     walk_at "r"
     refine a93 (SqL.of (s2 _ _ hc0)) (a04 b1) ?_
     walk_at "r"
     refine a65 (SqT.of (s2 _ _ b2)) (a04 (j:=0) rfl) ?_
     walk_at "r"
     by_cases ho:(roomOf rs p.1).1=(roomOf rs p.2).1
     rotate_left
     · rw [decide_eq_false ho]
       walk_at "r"
       exact q false H2 s2 ⟨fun z=>(nomatch z),fun z=>absurd (z.2 p hpm).1 ho⟩
     rw [decide_eq_true ho]
     walk_at "r"
     refine a93 (SqL.of (s2 _ _ hc0)) (a04 a1) ?_
     walk_at "r"
     refine a65 (SqT.of (s2 _ _ a2)) (a04 (j:=1) rfl) ?_
     walk_at "r"
     refine a93 (SqL.of (s2 _ _ hc0)) (a04 b1) ?_
     walk_at "r"
     refine a65 (SqT.of (s2 _ _ b2)) (a04 (j:=1) rfl) ?_
     walk_at "r"
     refine ⟨g,g',rfl,⟨_,SqL.of (s2 _ _ a3)⟩,⟨_,SqL.of (s2 _ _ b3)⟩,be7 (K:=K) (xs:=ps) (ys:=ps') (by omega) (fun j σ H'=>j≤es.length∧Same H H'∧(∀ j',j'<j→(rowOf rs p.1 j').1=(rowOf rs p.2 j').1∧((rowOf rs p.1 j').2,(rowOf rs p.2 j').2)∈pp)∧∃ y5 y6,σ=[some (.ref c),some (.ref pa),some (.int (p.1:Nat)),some (.int (p.2:Nat)),y5,y6]) ⟨Nat.zero_le _,s2,fun j hj=>absurd hj (Nat.not_lt_zero _),_,_,rfl⟩ (fun j σ H' _ ⟨_,s',_⟩=>⟨SqL.of (s' _ _ a3),SqL.of (s' _ _ b3)⟩) ?_ ?_⟩
     · rintro j x y σ H3 zq H4 hx hy ⟨hj,s3,hin,y5,y6,rfl⟩ s4 e4
       have hj':j<es.length:=by have:=(List.getElem?_eq_some_iff.mp hx).1; omega
       have s04:=s3.trans s4
       obtain ⟨tx,fx,hy1,hy2,_⟩:=(a4.same s04).get j x hx
       obtain ⟨r1,r2,_⟩:=ad1 ok l1 hj'
       rw [List.getElem?_map,r1] at hy1
       cases hy1
       obtain ⟨xk,xl,rfl,hxe,hxl,_⟩:=row_w.mp hy2
       obtain ⟨tx,fx,hz1,hz2,_⟩:=(b4.same s04).get j y hy
       obtain ⟨q1,q2,_⟩:=ad1 ok l2 hj'
       rw [List.getElem?_map,q1] at hz1
       cases hz1
       obtain ⟨yk,yl,rfl,hye,hyl,_⟩:=row_w.mp hz2
       refine am3 (SqT.of e4) rfl ?_
       walk_at "r"
       refine a65 (SqT.of hxe) (a04 (j:=0) rfl) ?_
       walk_at "r"
       refine a65 (SqT.of hye) (a04 (j:=0) rfl) ?_
       walk_at "r"
       refine ca4 (SqL.of hxl) (SqL.of hyl) ?_
       walk_at "r"
       by_cases hs1:(rowOf rs p.1 j).1=(rowOf rs p.2 j).1
       rotate_left
       · rw [decide_eq_false hs1]
         walk_at "r"
         exact q false H4 s04 ⟨fun z=>(nomatch z),fun z=>absurd ((z.2 p hpm).2 j hj').1 hs1⟩
       rw [decide_eq_true hs1]
       walk_at "r"
       refine a65 (SqT.of hxe) (a04 (j:=1) rfl) ?_
       walk_at "r"
       refine a65 (SqT.of hye) (a04 (j:=1) rfl) ?_
       walk_at "r"
       intro p5 H5 f5 s5 e5
       walk_at "r"
       refine as4 (ae9 e5) (SqL.of ((s04.trans s5) _ _ hpa)) (hpv.mono ((s04.trans s5).keep _)) (by have:=ae3 ((rowOf rs p.1 j).2,(rowOf rs p.2 j).2); omega) (by omega) ?_
       walk_at "r"
       by_cases hm:((rowOf rs p.1 j).2,(rowOf rs p.2 j).2)∈pp
       · rw [decide_eq_true (pair_mem.mpr hm)]
         walk_at "r"
         refine ⟨hj',s04.trans s5,fun j' hj2=>?_,_,_,rfl⟩
         rcases Nat.lt_or_eq_of_le (Nat.le_of_lt_succ hj2) with h | rfl
         · exact hin j' h
         · exact ⟨hs1,hm⟩
       · rw [decide_eq_false fun z=>hm (pair_mem.mp z)]
         walk_at "r"
         exact q false H5 (s04.trans s5) ⟨fun z=>(nomatch z),fun z=>absurd ((z.2 p hpm).2 j hj').2 hm⟩
     · rintro σ H3 ⟨_,s3,hin,y5,y6,rfl⟩
       rw [a5] at hin
       refine ⟨hi',s3,fun i' p' hi2 hp'=>?_,_,_,_,_,rfl⟩
       rcases Nat.lt_or_eq_of_le (Nat.le_of_lt_succ hi2) with h | rfl
       · exact hg i' p' h hp'
       · rw [hp] at hp'
         cases hp'
         exact ⟨ho,hin⟩
   · rintro σ H2 ⟨_,s2,hg,y3,y4,y5,y6,rfl⟩
     walk_at "r"
     have vl:pvs.length=pp.length:=by rw [hpv.len,List.length_map]
     rw [vl] at hg
     refine q true H2 s2 ⟨fun _=>⟨h0,fun p hp=>?_⟩,fun _=>rfl⟩
     obtain ⟨i,hi,ei⟩:=List.mem_iff_getElem.mp hp
     exact hg i p hi (by rw [List.getElem?_eq_getElem hi,ei])
open Y (ac1)
theorem bl2 {us:List V}{k:Nat}:cutV us none (some (k:Int))=us.take k:=by
 unfold cutV
 rw [HT.sIx_none,HT.sIx_nat,List.drop_zero,Nat.sub_zero]
 by_cases h:k≤us.length
 · rw [Nat.min_eq_left h]
 · rw [Nat.min_eq_right (by omega),List.take_of_length_le (by simp),List.take_of_length_le (by omega)]
theorem ax9 {us:List V}{k:Nat}:cutV us (some (k:Int)) none=us.drop k:=by
 unfold cutV
 rw [HT.sIx_none,HT.sIx_nat]
 by_cases h:k≤us.length
 · rw [Nat.min_eq_left h,List.take_of_length_le (by simp)]
 · rw [Nat.min_eq_right (by omega),List.drop_of_length_le (Nat.le_refl _),List.drop_of_length_le (by omega)]
   simp
theorem bl3 {H:Hp}:∀ {ts:List Tr}{vs:List V},ts.length=vs.length→(∀ (i:Nat) (t:Tr) (v:V),ts[i]?=some t→vs[i]?=some v→t.At H v [])→Tr.Ats H ts vs []
 | [],[],_,_=>ats_nil0.mpr rfl
 | t::ts,v::vs,hl,h=>ats_cons0.mpr ⟨v,vs,rfl,h 0 t v rfl rfl,bl3 (by simpa using hl) fun i t v a b=>h (i+1) t v (by simpa using a) (by simpa using b)⟩
 | [],_::_,hl,_=>by simp at hl
 | _::_,[],hl,_=>by simp at hl
theorem ce5 {H:Hp}{ts:List Tr}{vs:List V}(h:Tr.Ats H ts vs []) (n:Nat):Tr.Ats H (ts.take n) (vs.take n) []:=by
 refine bl3 (by rw [List.length_take,List.length_take,h.len]) fun i t v a b=>?_
 rw [List.getElem?_take] at a b
 split at b
 · rename_i hi
   rw [if_pos hi] at a
   obtain ⟨x,h1,h2⟩:=aa0 h b
   rw [a] at h1
   cases h1
   exact h2
 · cases b
theorem ce6 {H:Hp}{ts:List Tr}{vs:List V}(h:Tr.Ats H ts vs []) (n:Nat):Tr.Ats H (ts.drop n) (vs.drop n) []:=by
 refine bl3 (by rw [List.length_drop,List.length_drop,h.len]) fun i t v a b=>?_
 rw [List.getElem?_drop] at a b
 obtain ⟨x,h1,h2⟩:=aa0 h b
 rw [a] at h1
 cases h1
 exact h2
def dg (r:Nat):Nat×Nat:=(r,r)
theorem bv0 (row:List Nat):row.map diagT=(row.map dg).map pairT:=by rw [List.map_map]; rfl
theorem ar0 {es:List Ev}{rs:List a60}{row:List Nat}(h0:0∈row) (hc:∀ k∈row,ClP es rs row k):RightP es rs (row.map dg):=by
 refine ⟨List.mem_map.mpr ⟨0,h0,rfl⟩,fun p hp=>?_⟩
 obtain ⟨k,hk,rfl⟩:=List.mem_map.mp hp
 exact ⟨rfl,fun j hj=>⟨dg (rowOf rs k j).2,List.mem_map_of_mem (hc k hk j hj),b67 rs _⟩⟩
theorem b69 {H:Hp}{x dx:Addr}{o o':HO}(nx:H x=none) (nd:H dx=none):Same H (upd (upd H dx o) x o'):=fun y u e=>by
 rw [a09 (a05 e nx),a09 (a05 e nd)]
 exact e
theorem sd_W {sy:List Str}{rs:List a60}(h:∀ s∈sayL sy rs,s∈SAID):∀ s∈sayL sy rs,s∈SAID∧∀ x∈s,x∈SAID.flatten:=fun s hs=>⟨h s hs,fun x hx=>List.mem_flatten.mpr ⟨s,h s hs,hx⟩⟩
theorem bt3:SAID.flatten.length<64:=by decide +kernel
structure PpA (H:Hp) (a:Addr) (n:Nat) (pp:List (Nat×Nat)):Prop where
 ex:∃ pvs,H a=some (.lst pvs)∧Tr.Ats H (pp.map pairT) pvs []
 len:pp.length≤200
 lt:∀ p∈pp,p.1<n∧p.2<n
theorem PpA.oth {H H':Hp}{a st:Addr}{n:Nat}{z:Int}{pp:List (Nat×Nat)}(h:PpA H a n pp) (o:Oth st H H') (k:StA H st z) (hn:a≠st):PpA H' a n pp:=by
 obtain ⟨⟨pvs,h1,h2⟩,h3,h4⟩:=h
 exact ⟨⟨pvs,o _ _ hn h1,ad4 h2 (o.tups k)⟩,h3,h4⟩
theorem PpA.same {H H':Hp}{a:Addr}{n:Nat}{pp:List (Nat×Nat)}(h:PpA H a n pp) (s:Same H H'):PpA H' a n pp:=by
 obtain ⟨⟨pvs,h1,h2⟩,h3,h4⟩:=h
 exact ⟨⟨pvs,s _ _ h1,h2.same s⟩,h3,h4⟩
theorem ce7 (T:Txt K mg t):FnOk P w K mg base CX0 8 t.a_law t.fd_law ["script"] (ap6 K):=by
 have G_PackMachine___init__:=ag0 (P:=P) (w:=w) (base:=base) T
 have G_TableMachine___init__:=ac1 (P:=P) (w:=w) (base:=base) T
 have G__law_cell:=ao1 (P:=P) (w:=w) (base:=base) T
 have G__law_come_to:=ap3 (P:=P) (w:=w) (base:=base) T
 have G__law_right:=ax8 (P:=P) (w:=w) (base:=base) T
 have G__law_table:=ax3 (P:=P) (w:=w) (base:=base) T
 have G__law_take:=af8 (P:=P) (w:=w) (base:=base) T
 have G_found_paper:=ap2 (P:=P) (w:=w) (base:=base) T
 have G_pack:=c06 (P:=P) (w:=w) (base:=base) T
 have G_right_paper:=ap1 (P:=P) (w:=w) (base:=base) T
 refine T.F_law.ok sc_law (fun vs H Q E h=>?_) (fun cdv A outer s H vs Q E hr h=>?_)
 · obtain ⟨a,ns,rfl,_⟩:=h
   rfl
 · obtain ⟨a0,ns,rfl,hS,hl,q⟩:=h
   refine ⟨_,(@a02 _ _ _ _ _ (@a45 _ _ 1 _ _ _ _ sc_law.nd rfl (by walk_at "o") (@a40 _ _ _ _ _ _ _ _ _ _ _ _ _ _ _ _ G__law_table (hr.mono (by omega)) rfl T.m__law_table T.F__law_table.kp T.b__law_table .nil a55 (@a00 _ _ _ _ _ (pv 0) (@a01 _) (by rfl)) (by decide) (by rfl) (by rfl)) (by rfl) (by walk_at "o"))
    (@a02 _ _ _ _ _ (@a45 _ _ 2 _ _ _ _ sc_law.nd rfl (by walk_at "o") (bc6 T.mk_TableMachine G_TableMachine___init__ (hr.mono (by omega)) rfl T.m_TableMachine T.b_TableMachine___init__ .nil a55 (@a00 _ _ _ _ _ (pv 1) (@a01 _) (by rfl))) (by rfl) (by walk_at "o"))
    (@a02 _ _ _ _ _ (@a45 _ _ 3 _ _ _ _ sc_law.nd rfl (by walk_at "o") (bc6 T.mk_PackMachine G_PackMachine___init__ (hr.mono (by omega)) rfl T.m_PackMachine T.b_PackMachine___init__ .nil a55 (@a00 _ _ _ _ _ (@a40 _ _ _ _ _ _ _ _ _ _ _ _ _ _ _ _ G_pack (hr.mono (by omega)) rfl T.m_pack T.F_pack.kp T.b_pack .nil a55 (@a00 _ _ _ _ _ (pv 1) (@a01 _) (by rfl)) (by decide) (by rfl) (by rfl)) (@a01 _) (by rfl))) (by rfl) (by walk_at "o"))
    (@a02 _ _ _ _ _ (@a45 _ _ 4 _ _ _ _ sc_law.nd rfl (by walk_at "o") (@a48 _ _ _ _ (@a00 _ _ _ _ _ (@a89 _ _ _ _ _ _ _ _ ar2 (@a40 _ _ _ _ _ _ _ _ _ _ _ _ _ _ _ _ G__law_cell (hr.mono (by omega)) rfl T.m__law_cell T.F__law_cell.kp T.b__law_cell .nil a55 (@a00 _ _ _ _ _ (pv 0) (@a00 _ _ _ _ _ (@a03 _ _ _ _) (@a00 _ _ _ _ _ (@a03 _ _ _ _) (@a01 _) (by rfl)) (by rfl)) (by rfl)) (by decide) (by rfl) (by rfl)) (@a03 _ _ _ _)) (@a00 _ _ _ _ _ (@a89 _ _ _ _ _ _ _ _ ai9 (@a59 _ _ _ _ _ _ _ _ _ (bf8 K) (by rfl) T.z_sum bt8 (@a00 _ _ _ _ _ (pv 0) (@a01 _) (by rfl)) (by decide) (by decide) (by rfl) (by rfl)) (@a03 _ _ _ _)) (@a01 _) (by rfl)) (by rfl))) (by rfl) (by walk_at "o"))
    (@a02 _ _ _ _ _ (@a45 _ _ 5 _ _ _ _ sc_law.nd rfl (by walk_at "o") (@a40 _ _ _ _ _ _ _ _ _ _ _ _ _ _ _ _ G__law_come_to (hr.mono (by omega)) rfl T.m__law_come_to T.F__law_come_to.kp T.b__law_come_to .nil a55 (@a00 _ _ _ _ _ (@a44 _ _ _ _ _ _ _ (a08 K) (pv 1) (@a03 _ _ _ _) (fun _ _=>rfl)) (@a01 _) (by rfl)) (by decide) (by rfl) (by rfl)) (by rfl) (by walk_at "o"))
    (@a02 _ _ _ _ _ (@a45 _ _ 6 _ _ _ _ sc_law.nd rfl (by walk_at "o") (@a40 _ _ _ _ _ _ _ _ _ _ _ _ _ _ _ _ G__law_take (hr.mono (by omega)) rfl T.m__law_take T.F__law_take.kp T.b__law_take .nil a55 (@a00 _ _ _ _ _ (pv 4) (@a00 _ _ _ _ _ (@a59 _ _ _ _ _ _ _ _ _ (aa6 K) (by rfl) T.z_len ab9 (@a00 _ _ _ _ _ (pv 5) (@a01 _) (by rfl)) (by decide) (by decide) (by rfl) (by rfl)) (@a01 _) (by rfl)) (by rfl)) (by decide) (by rfl) (by rfl)) (by rfl) (by walk_at "o"))
    (@a02 _ _ _ _ _ (bw7 (i:=7) (Nt:=["room"]) (Nf:=[]) (caps:=[]) rfl (ab4 (sc:=defScope ao7) rfl rfl (by decide +kernel) (by decide +kernel) (by decide +kernel) rfl (by decide +kernel)) (a69 K (@a89 _ _ _ _ _ _ _ _ a86 (@ah7 _ _ _ _ _ _ _ _ _ _ (ai0 K) (pv 5) (@ag6 _ _ _ (pv 6)) (@ar4 _)) (@ah7 _ _ _ _ _ _ _ _ _ _ (ai0 K) (pv 5) (@ar4 _) (@ag6 _ _ _ (pv 6))))) (fun _ _ _ _ _=>(a47 (i:=0) (show (["room"]:List Str).Nodup by decide +kernel) rfl (by walk_at "o"))) (fun _ _ _ _ _=>(@ab5 _)) (fun _ _ _ _ _=>(@a66 _ _ _ _ _ (@a00 _ _ _ _ _ (pv 0) (@a00 _ _ _ _ _ (pv 0) (@a01 _) (by rfl)) (by rfl)))) sc_law.nd rfl (by walk_at "o") rfl)
    (@a02 _ _ _ _ _ (@ad7 _ _ _ _ _ _ _ _ (@a62 _ _ _ _ _ _ _ _ bh6 (@a40 _ _ _ _ _ _ _ _ _ _ _ _ _ _ _ _ G_right_paper (hr.mono (by omega)) rfl T.m_right_paper T.F_right_paper.kp T.b_right_paper .nil a55 (@a00 _ _ _ _ _ (pv 2) (@a00 _ _ _ _ _ (pv 3) (@a00 _ _ _ _ _ (@a44 _ _ _ _ _ _ _ (a08 K) (pv 1) (@a03 _ _ _ _) (fun _ _=>rfl)) (@a00 _ _ _ _ _ (pv 7) (@a01 _) (by rfl)) (by rfl)) (by rfl)) (by rfl)) (by decide) (by rfl) (by rfl)) (@ag5 _ _ _ _) (nomark _)) (@a06 _ _ _ (@a54 _ _ _ _ (@ag5 _ _ _ _))) (@a84 _))
    (@a02 _ _ _ _ _ (@a45 _ _ 8 _ _ _ _ sc_law.nd rfl (by walk_at "o") (@a40 _ _ _ _ _ _ _ _ _ _ _ _ _ _ _ _ G__law_take (hr.mono (by omega)) rfl T.m__law_take T.F__law_take.kp T.b__law_take .nil a55 (@a00 _ _ _ _ _ (pv 4) (@a00 _ _ _ _ _ (@a59 _ _ _ _ _ _ _ _ _ (aa6 K) (by rfl) T.z_len ab9 (@a00 _ _ _ _ _ (pv 7) (@a01 _) (by rfl)) (by decide) (by decide) (by rfl) (by rfl)) (@a01 _) (by rfl)) (by rfl)) (by decide) (by rfl) (by rfl)) (by rfl) (by walk_at "o"))
    (@a02 _ _ _ _ _ (@a45 _ _ 9 _ _ _ _ sc_law.nd rfl (by walk_at "o") (@a89 _ _ _ _ _ _ _ _ a86 (@ah7 _ _ _ _ _ _ _ _ _ _ (ai0 K) (pv 7) (@ar4 _) (@ag6 _ _ _ (pv 8))) (@ah7 _ _ _ _ _ _ _ _ _ _ (ai0 K) (pv 7) (@ag6 _ _ _ (@a89 _ _ _ _ _ _ _ _ a86 (pv 8) (@a03 _ _ _ _))) (@ar4 _))) (by rfl) (by walk_at "o"))
    (@a02 _ _ _ _ _ (@a45 _ _ 10 _ _ _ _ sc_law.nd rfl (by walk_at "o") (@a89 _ _ _ _ _ _ _ _ a86 (pv 9) (@a48 _ _ _ _ (@a00 _ _ _ _ _ (@a66 _ _ _ _ _ (@a00 _ _ _ _ _ (@a44 _ _ _ _ _ _ _ (a08 K) (@a44 _ _ _ _ _ _ _ (a42 K) (pv 7) (pv 8) (fun _ _=>rfl)) (@a03 _ _ _ _) (fun _ _=>rfl)) (@a00 _ _ _ _ _ (@a40 _ _ _ _ _ _ _ _ _ _ _ _ _ _ _ _ G__law_take (hr.mono (by omega)) rfl T.m__law_take T.F__law_take.kp T.b__law_take .nil a55 (@a00 _ _ _ _ _ (pv 4) (@a00 _ _ _ _ _ (@a59 _ _ _ _ _ _ _ _ _ (aa6 K) (by rfl) T.z_len ab9 (@a00 _ _ _ _ _ (@a44 _ _ _ _ _ _ _ (a08 K) (pv 1) (@a03 _ _ _ _) (fun _ _=>rfl)) (@a01 _) (by rfl)) (by decide) (by decide) (by rfl) (by rfl)) (@a01 _) (by rfl)) (by rfl)) (by decide) (by rfl) (by rfl)) (@a01 _) (by rfl)) (by rfl))) (@a01 _) (by rfl)))) (by rfl) (by walk_at "o"))
    (@a02 _ _ _ _ _ (@ac2 _ _ _ _ _ _ _ _ PassesOwn.never rfl (a69 K (@a48 _ _ _ _ (@a00 _ _ _ _ _ (pv 9) (@a00 _ _ _ _ _ (pv 10) (@a00 _ _ _ _ _ (@a89 _ _ _ _ _ _ _ _ a86 (pv 7) (@a48 _ _ _ _ (@a00 _ _ _ _ _ (@a66 _ _ _ _ _ (@a00 _ _ _ _ _ (@a40 _ _ _ _ _ _ _ _ _ _ _ _ _ _ _ _ G__law_take (hr.mono (by omega)) rfl T.m__law_take T.F__law_take.kp T.b__law_take .nil a55 (@a00 _ _ _ _ _ (pv 4) (@a00 _ _ _ _ _ (@a59 _ _ _ _ _ _ _ _ _ (aa6 K) (by rfl) T.z_len ab9 (@a00 _ _ _ _ _ (@a44 _ _ _ _ _ _ _ (a08 K) (pv 1) (@a03 _ _ _ _) (fun _ _=>rfl)) (@a01 _) (by rfl)) (by decide) (by decide) (by rfl) (by rfl)) (@a01 _) (by rfl)) (by rfl)) (by decide) (by rfl) (by rfl)) (@a00 _ _ _ _ _ (@a40 _ _ _ _ _ _ _ _ _ _ _ _ _ _ _ _ G__law_take (hr.mono (by omega)) rfl T.m__law_take T.F__law_take.kp T.b__law_take .nil a55 (@a00 _ _ _ _ _ (pv 4) (@a00 _ _ _ _ _ (@a59 _ _ _ _ _ _ _ _ _ (aa6 K) (by rfl) T.z_len ab9 (@a00 _ _ _ _ _ (@a44 _ _ _ _ _ _ _ (a08 K) (pv 1) (@a03 _ _ _ _) (fun _ _=>rfl)) (@a01 _) (by rfl)) (by decide) (by decide) (by rfl) (by rfl)) (@a01 _) (by rfl)) (by rfl)) (by decide) (by rfl) (by rfl)) (@a01 _) (by rfl)) (by rfl))) (@a01 _) (by rfl)))) (@a01 _) (by rfl)) (by rfl)) (by rfl)))) (a47 (i:=11) sc_law.nd rfl (by walk_at "o")) (@a02 _ _ _ _ _ (@a45 _ _ 12 _ _ _ _ sc_law.nd rfl (by walk_at "o") (@a40 _ _ _ _ _ _ _ _ _ _ _ _ _ _ _ _ G_right_paper (hr.mono (by omega)) rfl T.m_right_paper T.F_right_paper.kp T.b_right_paper .nil a55 (@a00 _ _ _ _ _ (pv 2) (@a00 _ _ _ _ _ (pv 3) (@a00 _ _ _ _ _ (@a44 _ _ _ _ _ _ _ (a08 K) (pv 1) (@a03 _ _ _ _) (fun _ _=>rfl)) (@a00 _ _ _ _ _ (pv 11) (@a01 _) (by rfl)) (by rfl)) (by rfl)) (by rfl)) (by decide) (by rfl) (by rfl)) (by rfl) (by walk_at "o"))
     (@a06 _ _ _ (@ad7 _ _ _ _ _ _ _ _ (@PW.pt _ _ _ (@bl5 _ _ _ _ _ _ _ (@c50 _ _ _ _ (bd9 K (@a59 _ _ _ _ _ _ _ _ _ (bd8 K) (by rfl) T.z_isinstance aj2 (@a00 _ _ _ _ _ (pv 12) (@a00 _ _ _ _ _ (ba8 (v:=.ty "bool") (by rfl) T.z_bool bx1 rfl) (@a01 _) (by rfl)) (by rfl)) (by decide) (by decide) (by rfl) (by rfl)) (fun _=>rfl))) (@b45 _ _ _ _ (@a62 _ _ _ _ _ _ _ _ bl7 (pv 12) (@a40 _ _ _ _ _ _ _ _ _ _ _ _ _ _ _ _ G__law_right (hr.mono (by omega)) rfl T.m__law_right T.F__law_right.kp T.b__law_right .nil a55 (@a00 _ _ _ _ _ (@a44 _ _ _ _ _ _ _ (a08 K) (pv 1) (@a03 _ _ _ _) (fun _ _=>rfl)) (@a00 _ _ _ _ _ (pv 11) (@a01 _) (by rfl)) (by rfl)) (by decide) (by rfl) (by rfl)) (nomark _))))) (@a06 _ _ _ (@a54 _ _ _ _ (@ag5 _ _ _ _))) (@a84 _)))) (by intro _; rfl))
    (@a02 _ _ _ _ _ (@a45 _ _ 13 _ _ _ _ sc_law.nd rfl (by walk_at "o") (@a40 _ _ _ _ _ _ _ _ _ _ _ _ _ _ _ _ G_found_paper (hr.mono (by omega)) rfl T.m_found_paper T.F_found_paper.kp T.b_found_paper .nil a55 (@a00 _ _ _ _ _ (pv 2) (@a00 _ _ _ _ _ (pv 3) (@a00 _ _ _ _ _ (@a44 _ _ _ _ _ _ _ (a08 K) (pv 1) (@a03 _ _ _ _) (fun _ _=>rfl)) (@a01 _) (by rfl)) (by rfl)) (by rfl)) (by decide) (by rfl) (by rfl)) (by rfl) (by walk_at "o"))
    (@a06 _ _ _ (@a54 _ _ _ _ (@c52 _ _ _ _ _ _ _ (@a59 _ _ _ _ _ _ _ _ _ (bd8 K) (by rfl) T.z_isinstance aj2 (@a00 _ _ _ _ _ (pv 13) (@a00 _ _ _ _ _ (ba8 (v:=.ty "list") (by rfl) T.z_list ac8 rfl) (@a01 _) (by rfl)) (by rfl)) (by decide) (by decide) (by rfl) (by rfl)) (@c51 _ _ _ _ _ (@bc2 _ _ _ _ _ _ _ _ c81 (@a40 _ _ _ _ _ _ _ _ _ _ _ _ _ _ _ _ G_right_paper (hr.mono (by omega)) rfl T.m_right_paper T.F_right_paper.kp T.b_right_paper .nil a55 (@a00 _ _ _ _ _ (pv 2) (@a00 _ _ _ _ _ (pv 3) (@a00 _ _ _ _ _ (@a44 _ _ _ _ _ _ _ (a08 K) (pv 1) (@a03 _ _ _ _) (fun _ _=>rfl)) (@a00 _ _ _ _ _ (pv 13) (@a01 _) (by rfl)) (by rfl)) (by rfl)) (by rfl)) (by decide) (by rfl) (by rfl)) (@ag5 _ _ _ _) (nomark _))))))))))))))))))),?_⟩
   have sl:(1000000:Nat)≤sizeLine:=le_line (Nat.le_refl _)
   walk_at "go"
   refine ⟨a0,ns,rfl,hS,fun v ta tb tc es sy rs gs H1 s1 hT ok=>?_⟩
   walk_at "r"
   have nel:=ok.ok.ne
   have nrl:=ok.ok.nr
   have r0:=ok.r0
   intro m1 dx1 n1 nd1 ne1
   have sx1:=b69 (o:=.own m1) (o':=.ins t.c_TableMachine dx1 []) n1 nd1
   refine ⟨m1,dx1,v,ta,tb,tc,es,sy,rs,gs,rfl,a41,hT.same sx1,ok.ok,fun d s c1 gs1 H2 mt _ _ _ _ k2=>⟨rfl,?_⟩⟩
   have s12:Same H1 H2:=fun y o e=>k2 y o (sx1 y o e) (a05 e n1)
   have hM2:TM w.params t.c_TableMachine H2 m1 es sy rs:=⟨d,s,c1,gs1,mt⟩
   walk_at "r"
   refine ⟨v,ta,tb,tc,es,sy,rs,gs,SAID,SAID.flatten,rfl,hT.same s12,ok.ok,ok.e0,ok.r0,by decide,bt3,sd_W ok.sd,fun tt a b c us txs k H3 pp=>?_⟩
   walk_at "r"
   intro m2 dx2 n2 nd2 ne2
   have sx2:=b69 (o:=.own m2) (o':=.ins t.c_PackMachine dx2 []) n2 nd2
   refine ⟨m2,dx2,tt,a,b,c,us,es,txs,k,rfl,a41,sx2 _ _ pp.e,sx2 _ _ pp.ea,pp.hu.same sx2,by omega,sx2 _ _ pp.eb,sx2 _ _ pp.ec,pp.ok,fun d tx c' sh sy' H4 hPM fr k4=>⟨rfl,?_⟩⟩
   have s34:Same H3 H4:=fun y o e=>k4 y o (sx2 y o e) (a05 e n2)
   have s24:Same H2 H4:=pp.same.trans s34
   have s04:Same H H4:=s1.trans (s12.trans s24)
   have hP4:PM w.params t.c_PackMachine H4 m2 es sy rs:=⟨d,tx,c',sh,sy',txs,k,hPM,pp.ok,pp.is⟩
   have hM4:=hM2.same s24
   have hT4:=hT.same (s12.trans s24)
   clear hPM fr k4 pp sx2 hM2 mt k2 sx1 s34 s24 s12
   obtain ⟨t0,us0,rvs,rfl,h1,h2,h3,h4,h5,h6⟩:=hT4.ex
   have rl:rvs.length=rs.length:=by rw [h6.len,List.length_map]
   walk_at "r"
   refine ⟨a0,ns,7,0,rfl,s04.seq hS,by omega,by omega,by omega,fun z5 H5 s5=>?_⟩
   walk_at "r"
   refine cb9 ((s04.trans s5).seq hS) ?_
   walk_at "r"
   generalize ns.sum % 2=zz
   intro st H6 f6 s6 e6
   have s46:=s5.trans s6
   have fst4:H4 st=none:=s5.free f6
   have k6:StA H6 st zz:=⟨_,e6⟩
   walk_at "r"
   refine a65 (SqT.of (s46 _ _ h1)) (a04 (j:=2) rfl) ?_
   walk_at "r"
   refine ⟨tc,rvs,gs,es,sy,rs,rfl,s46 _ _ h5,h6.same s46,ok,fun pf row H7 f7 s7 e7 cm=>?_⟩
   walk_at "r"
   refine ad3 (SqL.of e7) ?_
   walk_at "r"
   rw [a56]
   have hrow0:0<row.length:=List.length_pos_of_mem cm.z
   have hrf:=cm.few
   have k7:=k6.same s7
   have npf:pf≠st:=(a05 e6 f7).symm
   refine ⟨st,zz,row.length,rfl,k7,hrow0,by omega,fun tn H8 htn o8 k8=>?_⟩
   walk_at "r"
   have s48:Same H4 H8:=o8.new (s46.trans s7) fst4
   have e8:=o8 _ _ npf e7
   refine b83 (SqL.of e8) ?_
   rw [ax9]
   intro p9 H9 f9 s9 e9
   walk_at "r"
   refine b83 (SqL.of (s9 _ _ e8)) ?_
   rw [bl2]
   intro p10 H10 f10 s10 e10
   walk_at "r"
   refine ai5 (s10 _ _ e9) e10 (by rw [List.length_drop,List.length_take,a56]; omega) ?_
   intro p11 H11 f11 s11 e11
   walk_at "r"
   have epm:(natsV row).drop tn++(natsV row).take tn=natsV (row.drop tn++row.take tn):=by simp [natsV,List.map_drop,List.map_take]
   rw [epm] at e11
   have hpm:∀ x,x∈row.drop tn++row.take tn↔x∈row:=fun x=>by
    conv=>rhs; rw [← List.take_append_drop tn row]
    rw [List.mem_append,List.mem_append]
    exact or_comm
   have hpl:(row.drop tn++row.take tn).length=row.length:=by rw [List.length_append,List.length_drop,List.length_take]; omega
   generalize row.drop tn++row.take tn=per at e11 hpm hpl
   have s811:=s9.trans (s10.trans s11)
   refine ⟨⟨_,SqL.of e11⟩,ae6 (xs:=natsV per) (le_line (by rw [a56]; omega)) (fun i acc H'=>i≤per.length∧acc.length=i∧Same H11 H'∧Tr.Ats H' ((per.take i).map diagT) acc []) ⟨Nat.zero_le _,rfl,Same.refl _,ats_nil0.mpr rfl⟩ (fun i acc H' ⟨_,e,s',_⟩=>⟨by omega,SqL.of (s' _ _ e11)⟩) ?_ ?_⟩
   · rintro i x acc H12 hx ⟨hi,ea,s12,hat⟩
     obtain ⟨r,hr,rfl⟩:=aq8 hx
     have hi':i<per.length:=(List.getElem?_eq_some_iff.mp hr).1
     walk_at "r"
     intro p13 H13 f13 s13 e13
     refine ⟨hi',by simp [ea],s12.trans s13,?_⟩
     rw [List.take_add_one,hr,List.map_append]
     exact Tr.Ats.snoc (fs:=[]) (gs:=[]) (hat.same s13) (ae9 e13)
   rintro acc H12 ⟨_,ea,s12,hat⟩ pp1 H13 f13 s13 e13
   rw [a56,List.take_length,bv0] at hat
   have s813:=s811.trans (s12.trans s13)
   have s413:=s48.trans s813
   have k13:=k8.same s813
   have npp1:pp1≠st:=(a05 ((s811.trans s12) _ _ k8.choose_spec) f13).symm
   have hpa:PpA H13 pp1 rs.length (per.map dg):=⟨⟨acc,e13,hat.same s13⟩,by rw [List.length_map]; omega,fun p hp=>by
    obtain ⟨r,hr,rfl⟩:=List.mem_map.mp hp
    have:=cm.lt r ((hpm r).mp hr)
    exact ⟨this,this⟩⟩
   have hcl:∀ x∈per,ClP es rs per x:=fun x hx j hj=>(hpm _).mpr (by
    rcases cm.cl x ((hpm x).mp hx) with a | a | a
    · exact a.elim
    · cases a
    · exact a j hj)
   have hR:RightP es rs (per.map dg):=ar0 ((hpm 0).mpr cm.z) hcl
   walk_at "r"
   refine a65 (SqT.of (s413 _ _ h1)) (a04 (j:=0) rfl) ?_
   walk_at "r"
   obtain ⟨pvs1,hpv1,hpv2⟩:=hpa.ex
   refine ⟨m1,m2,ta,pp1,us0,pvs1,es,sy,rs,_,rfl,hM4.same s413,hP4.same s413,ok,s413 _ _ h2,h3.same s413,hpv1,hpv2,by have:=hpa.len; omega,hpa.lt,fun b1 H14 s14 hb1=>?_⟩
   rw [hb1.mpr hR]
   walk_at "r"
   refine bz7 ?_
   walk_at "r"
   have hpa14:=hpa.same s14
   obtain ⟨pvs14,hpw1,hpw2⟩:=hpa14.ex
   have pwl:pvs14.length=per.length:=by rw [hpw2.len,List.length_map,List.length_map]
   refine ad3 (SqL.of hpw1) ?_
   walk_at "r"
   rw [pwl]
   have k14:=k13.same s14
   refine ⟨st,zz,per.length,rfl,k14,by omega,by omega,fun at_ H15 hat15 o15 k15=>?_⟩
   walk_at "r"
   have s415:Same H4 H15:=o15.new (s413.trans s14) fst4
   have hpa15:=hpa14.oth o15 k14 npp1
   have hpx1:=o15 _ _ npp1 hpw1
   have hpx2:=ad4 hpw2 (o15.tups k14)
   refine b83 (SqL.of hpx1) ?_
   rw [bl2]
   intro q1 H16 f16 s16 e16
   walk_at "r"
   rw [show ((at_:Nat):Int)+1=((at_+1:Nat):Int) by omega]
   refine b83 (SqL.of (s16 _ _ hpx1)) ?_
   rw [ax9]
   intro q2 H17 f17 s17 e17
   walk_at "r"
   refine ai5 (s17 _ _ e16) e17 (by rw [List.length_drop,List.length_take]; omega) ?_
   intro pl H18 f18 s18 e18
   have s1518:=s16.trans (s17.trans s18)
   have hless:PpA H18 pl rs.length ((per.map dg).take at_++(per.map dg).drop (at_+1)):=⟨⟨_,e18,by
    rw [List.map_append,List.map_take,List.map_drop]
    exact ats_app0.mpr ⟨_,_,rfl,(ce5 hpx2 at_).same s1518,(ce6 hpx2 (at_+1)).same s1518⟩⟩,by
    have:=hpa15.len
    rw [List.length_append,List.length_take,List.length_drop]
    omega,fun p hp=>hpa15.lt p (by
    rcases List.mem_append.mp hp with hp | hp
    · exact List.mem_of_mem_take hp
    · exact List.mem_of_mem_drop hp)⟩
   have k18:=k15.same s1518
   have npl:pl≠st:=(a05 ((s16.trans s17) _ _ k15.choose_spec) f18).symm
   have lln:((per.map dg).take at_++(per.map dg).drop (at_+1)).length≤100:=by
    rw [List.length_append,List.length_take,List.length_drop,List.length_map]
    omega
   generalize (per.map dg).take at_++(per.map dg).drop (at_+1)=less at hless lln
   walk_at "r"
   have hatl:at_<pvs14.length:=by omega
   have hatp:(per.map dg)[at_]?=some (dg per[at_]):=by rw [List.getElem?_map,List.getElem?_eq_getElem (by omega)]; rfl
   obtain ⟨tq,hq1,hq2⟩:=aa0 hpx2 (List.getElem?_eq_getElem hatl)
   rw [List.getElem?_map,hatp] at hq1
   cases hq1
   obtain ⟨pk,epk,hpk⟩:=al1 hq2
   refine a93 (SqL.of (s1518 _ _ hpx1)) (a04 (j:=at_) (v:=.ref pk) (by rw [List.getElem?_eq_getElem hatl,epk])) ?_
   walk_at "r"
   refine a65 (SqT.of (s1518 _ _ hpk)) (a04 (j:=0) rfl) ?_
   walk_at "r"
   have s418:=s415.trans s1518
   refine a65 (SqT.of (s418 _ _ h1)) (a04 (j:=2) rfl) ?_
   walk_at "r"
   refine ad3 (SqL.of (s418 _ _ h5)) ?_
   walk_at "r"
   rw [rl]
   refine ⟨st,zz,rs.length,rfl,k18,r0,by omega,fun r19 H19 hr19 o19 k19=>?_⟩
   walk_at "r"
   have s419:Same H4 H19:=o19.new s418 fst4
   have hless19:=hless.oth o19 k18 npl
   have hpa19:=(hpa15.same s1518).oth o19 k18 npp1
   intro w1 H20 f20 s20 e20
   walk_at "r"
   intro w2 H21 f21 s21 e21
   walk_at "r"
   obtain ⟨lvs,hl1,hl2⟩:=(hless19.same (s20.trans s21)).ex
   have lvl:lvs.length=less.length:=by rw [hl2.len,List.length_map]
   refine ai5 hl1 e21 (by rw [lvl,List.length_singleton]; omega) ?_
   intro pw H22 f22 s22 e22
   have s1922:=s20.trans (s21.trans s22)
   have hper:per[at_]'(by omega)<rs.length:=cm.lt _ ((hpm _).mp (List.getElem_mem _))
   have hwrong:PpA H22 pw rs.length (less++[(per[at_]'(by omega),r19)]):=⟨⟨_,e22,by
    rw [List.map_append]
    exact ats_app0.mpr ⟨_,_,rfl,hl2.same s22,ats_cons0.mpr ⟨_,_,rfl,ae9 ((s21.trans s22) _ _ e20),ats_nil0.mpr rfl⟩⟩⟩,by
    rw [List.length_append,List.length_singleton]
    omega,fun p hp=>by
    rcases List.mem_append.mp hp with hp | hp
    · exact hless.lt p hp
    · rw [List.mem_singleton.mp hp]; exact ⟨hper,hr19⟩⟩
   have k22:=k19.same s1922
   have npw:pw≠st:=(a05 ((s20.trans s21) _ _ k19.choose_spec) f22).symm
   have hless22:=hless19.same s1922
   have hpa22:=hpa19.same s1922
   have s422:=s419.trans s1922
   generalize less++[(per[at_]'(by omega),r19)]=wrong at hwrong
   walk_at "r"
   refine a65 (SqT.of (s422 _ _ h1)) (a04 (j:=2) rfl) ?_
   walk_at "r"
   refine ad3 (SqL.of (s422 _ _ h5)) ?_
   walk_at "r"
   rw [rl]
   refine ⟨st,zz,rs.length,rfl,k22,r0,by omega,fun ra H23 hra o23 k23=>?_⟩
   walk_at "r"
   have s423:Same H4 H23:=o23.new s422 fst4
   refine a65 (SqT.of (s423 _ _ h1)) (a04 (j:=2) rfl) ?_
   walk_at "r"
   refine ad3 (SqL.of (s423 _ _ h5)) ?_
   walk_at "r"
   rw [rl]
   refine ⟨st,zz,rs.length,rfl,k23,r0,by omega,fun rb H24 hrb o24 k24=>?_⟩
   walk_at "r"
   have s424:Same H4 H24:=o24.new s423 fst4
   have hless24:=(hless22.oth o23 k22 npl).oth o24 k23 npl
   have hwrong24:=(hwrong.oth o23 k22 npw).oth o24 k23 npw
   have hpa24:=(hpa22.oth o23 k22 npp1).oth o24 k23 npp1
   intro x1 H25 f25 s25 e25
   walk_at "r"
   intro x2 H26 f26 s26 e26
   walk_at "r"
   obtain ⟨cvs,hc1,hc2⟩:=(hpa24.same (s25.trans s26)).ex
   have cvl:cvs.length=per.length:=by rw [hc2.len,List.length_map,List.length_map]
   refine ai5 hc1 e26 (by rw [cvl,List.length_singleton]; omega) ?_
   intro px H27 f27 s27 e27
   have s2427:=s25.trans (s26.trans s27)
   have hmore:PpA H27 px rs.length (per.map dg++[(ra,rb)]):=⟨⟨_,e27,by
    rw [List.map_append]
    exact ats_app0.mpr ⟨_,_,rfl,hc2.same s27,ats_cons0.mpr ⟨_,_,rfl,ae9 ((s26.trans s27) _ _ e25),ats_nil0.mpr rfl⟩⟩⟩,by
    rw [List.length_append,List.length_singleton,List.length_map]
    omega,fun p hp=>by
    rcases List.mem_append.mp hp with hp | hp
    · exact hpa.lt p hp
    · rw [List.mem_singleton.mp hp]; exact ⟨hra,hrb⟩⟩
   walk_at "r"
   intro p3 H28 f28 s28 e28
   have s2428:=s2427.trans s28
   have s428:=s424.trans s2428
   have hall:∀ (i:Nat) (v:V),[V.ref pl,V.ref pw,V.ref px][i]?=some v→∃ a pp,v=.ref a∧PpA H28 a rs.length pp:=fun i v hv=>by
    match i,hv with
    | 0,hv=>cases hv; exact ⟨_,_,rfl,hless24.same s2428⟩
    | 1,hv=>cases hv; exact ⟨_,_,rfl,hwrong24.same s2428⟩
    | 2,hv=>cases hv; exact ⟨_,_,rfl,hmore.same s28⟩
    | n+3,hv=>simp at hv
   walk_at "r"
   refine ⟨⟨_,SqL.of e28⟩,ac9 (K:=K) (a:=p3) (xs:=[V.ref pl,V.ref pw,V.ref px]) (fun i σ H'=>Same H28 H'∧∃ y1 y2,σ=[some (.ref a0),some (.ref t0),some (.ref m1),some (.ref m2),some (.ref st),some (.ref pf),some (.int (tn:Nat)),some (.ref pp1),some (.int (at_:Nat)),some (.ref pl),some (.ref pw),y1,y2,none]) ⟨Same.refl _,_,_,rfl⟩ (fun i σ H' _ ⟨s',_⟩=>SqL.of (s' _ _ e28)) ?_ ?_⟩
   · rintro i v σ H29 hv ⟨s29,y1,y2,rfl⟩
     obtain ⟨ap,ppi,rfl,hpi⟩:=hall i v hv
     have hpi29:=hpi.same s29
     obtain ⟨ivs,hi1,hi2⟩:=hpi29.ex
     have s429:=s428.trans s29
     have li:=hpi.len
     walk_at "r"
     refine a65 (SqT.of (s429 _ _ h1)) (a04 (j:=0) rfl) ?_
     walk_at "r"
     refine ⟨m1,m2,ta,ap,us0,ivs,es,sy,rs,ppi,rfl,hM4.same s429,hP4.same s429,ok,s429 _ _ h2,h3.same s429,hi1,hi2,by omega,hpi.lt,fun b2 H30 s30 hb2=>?_⟩
     walk_at "r"
     have s430:=s429.trans s30
     refine a65 (SqT.of (s430 _ _ h1)) (a04 (j:=2) rfl) ?_
     walk_at "r"
     refine ⟨tc,ap,rvs,ivs,gs,es,sy,rs,ppi,rfl,s430 _ _ h5,h6.same s430,ok,s30 _ _ hi1,hi2.same s30,by omega,hpi.lt,fun b3 H31 s31 hb3=>?_⟩
     walk_at "r"
     obtain rfl:b2=b3:=by
      have:=(hb2.trans bl0).trans hb3.symm
      revert this
      cases b2 <;> cases b3 <;> simp
     rw [decide_eq_true rfl]
     walk_at "r"
     exact ⟨s29.trans (s30.trans s31),_,_,rfl⟩
   · rintro σ H29 ⟨s29,y1,y2,rfl⟩
     have s429:=s428.trans s29
     walk_at "r"
     refine a65 (SqT.of (s429 _ _ h1)) (a04 (j:=0) rfl) ?_
     walk_at "r"
     refine ⟨m1,m2,ta,us0,es,sy,rs,rfl,hM4.same s429,hP4.same s429,ok,s429 _ _ h2,h3.same s429,fun pf9 fvs9 row9 H30 s30 e30 hf9 hb9 h09=>?_⟩
     walk_at "r"
     refine ca2 e30 ?_
     walk_at "r"
     have s430:=s429.trans s30
     refine a65 (SqT.of (s430 _ _ h1)) (a04 (j:=0) rfl) ?_
     walk_at "r"
     have hf:=hb9.few
     rw [bv0] at hf9
     have hR9:RightP es rs (row9.map dg):=ar0 h09 fun k hk j hj=>by
      obtain ⟨i,hi,ei⟩:=List.mem_iff_getElem.mp hk
      exact hb9.cl i k hi (by rw [List.getElem?_eq_getElem hi,ei]) _ (List.mem_map.mpr ⟨j,List.mem_range.mpr hj,rfl⟩)
     refine ⟨m1,m2,ta,pf9,us0,fvs9,es,sy,rs,row9.map dg,rfl,hM4.same s430,hP4.same s430,ok,s430 _ _ h2,h3.same s430,e30,hf9,by rw [List.length_map]; omega,fun p hp=>by
      obtain ⟨r,hr,rfl⟩:=List.mem_map.mp hp
      exact ⟨hb9.lt r hr,hb9.lt r hr⟩,fun b4 H31 s31 hb4=>?_⟩
     rw [hb4.mpr hR9]
     walk_at "r"
     exact q H31
end
theorem ap4 {us:List Value}{n:Nat}(h:us.length=n+1):∃ u r,us=u::r:=by
 cases us with
 | nil=>cases h
 | cons u r=>exact ⟨u,r,rfl⟩
theorem ai7 {us:List Value}(h:us.length=1):∃ u0,us=[u0]:=by
 obtain ⟨u0,us,rfl⟩:=ap4 h; replace h:=Nat.succ.inj h
 obtain rfl:=List.length_eq_zero_iff.mp h
 exact ⟨u0,rfl⟩
theorem ai8 {us:List Value}(h:us.length=2):∃ u0 u1,us=[u0,u1]:=by
 obtain ⟨u0,us,rfl⟩:=ap4 h; replace h:=Nat.succ.inj h
 obtain ⟨u1,us,rfl⟩:=ap4 h; replace h:=Nat.succ.inj h
 obtain rfl:=List.length_eq_zero_iff.mp h
 exact ⟨u0,u1,rfl⟩
theorem b43 {us:List Value}(h:us.length=3):∃ u0 u1 u2,us=[u0,u1,u2]:=by
 obtain ⟨u0,us,rfl⟩:=ap4 h; replace h:=Nat.succ.inj h
 obtain ⟨u1,us,rfl⟩:=ap4 h; replace h:=Nat.succ.inj h
 obtain ⟨u2,us,rfl⟩:=ap4 h; replace h:=Nat.succ.inj h
 obtain rfl:=List.length_eq_zero_iff.mp h
 exact ⟨u0,u1,u2,rfl⟩
theorem c44 {us:List Value}(h:us.length=4):∃ u0 u1 u2 u3,us=[u0,u1,u2,u3]:=by
 obtain ⟨u0,us,rfl⟩:=ap4 h; replace h:=Nat.succ.inj h
 obtain ⟨u1,us,rfl⟩:=ap4 h; replace h:=Nat.succ.inj h
 obtain ⟨u2,us,rfl⟩:=ap4 h; replace h:=Nat.succ.inj h
 obtain ⟨u3,us,rfl⟩:=ap4 h; replace h:=Nat.succ.inj h
 obtain rfl:=List.length_eq_zero_iff.mp h
 exact ⟨u0,u1,u2,u3,rfl⟩
theorem all_mk {l:PySem.W.OpenLaw}{w:World}{K:PySem.W.Frag}{h:Heap}{mg:Str→Option Value}{fa:Addr}(X:K.In h) (G:h.Ns mainGlobals mg) (hfa:mg "law"=some (.ref fa))
 {C_MillError:Addr}(aC_MillError:PySem.W.nsIn K mainGlobals "MillError"=some (some (.ref C_MillError)))
 {C_TooMany:Addr}(aC_TooMany:PySem.W.nsIn K mainGlobals "TooMany"=some (some (.ref C_TooMany)))
 {C_Machine:Addr}(aC_Machine:PySem.W.nsIn K mainGlobals "Machine"=some (some (.ref C_Machine)))
 {C_TableMachine:Addr}(aC_TableMachine:PySem.W.nsIn K mainGlobals "TableMachine"=some (some (.ref C_TableMachine)))
 (pg_TableMachine:PySem.W.plainGet K C_TableMachine Str.empty=true) (hd_TableMachine:PySem.W.hasDictIn K C_TableMachine=true) (po_TableMachine:PySem.W.plainOver K C_TableMachine=true) (sa_TableMachine:PySem.W.findIn K (.ref C_TableMachine) "__setattr__"=some (some (.builtin "object.__setattr__"))) (mk_TableMachine:PySem.W.makesIn K C_TableMachine=true) (kc_TableMachine:PySem.W.keepIn K (.ref C_TableMachine)=true)
 (nF_TableMachine_places:PySem.W.findIn K (.ref C_TableMachine) "places"=some none)
 (nF_TableMachine_rooms:PySem.W.findIn K (.ref C_TableMachine) "rooms"=some none)
 (nF_TableMachine_saying:PySem.W.findIn K (.ref C_TableMachine) "saying"=some none)
 {C_PackMachine:Addr}(aC_PackMachine:PySem.W.nsIn K mainGlobals "PackMachine"=some (some (.ref C_PackMachine)))
 (pg_PackMachine:PySem.W.plainGet K C_PackMachine Str.empty=true) (hd_PackMachine:PySem.W.hasDictIn K C_PackMachine=true) (po_PackMachine:PySem.W.plainOver K C_PackMachine=true) (sa_PackMachine:PySem.W.findIn K (.ref C_PackMachine) "__setattr__"=some (some (.builtin "object.__setattr__"))) (mk_PackMachine:PySem.W.makesIn K C_PackMachine=true) (kc_PackMachine:PySem.W.keepIn K (.ref C_PackMachine)=true)
 (nF_PackMachine_cells:PySem.W.findIn K (.ref C_PackMachine) "cells"=some none)
 (nF_PackMachine_places:PySem.W.findIn K (.ref C_PackMachine) "places"=some none)
 (nF_PackMachine_sayings:PySem.W.findIn K (.ref C_PackMachine) "sayings"=some none)
 (nF_PackMachine_shapes:PySem.W.findIn K (.ref C_PackMachine) "shapes"=some none)
 (nF_PackMachine_texts:PySem.W.findIn K (.ref C_PackMachine) "texts"=some none)
 {f0:Addr}{od0 an0:Option Addr}{sl0:Array (Option Value)}{oc0 kV0 dc0 pm0 cd0 ct0:Value}
 {f1:Addr}{od1 an1:Option Addr}{sl1:Array (Option Value)}{oc1 kV1 dc1 pm1 cd1 ct1:Value}
 {f2:Addr}{od2 an2:Option Addr}{sl2:Array (Option Value)}{oc2 kV2 dc2 pm2 cd2 ct2:Value}
 {f3:Addr}{od3 an3:Option Addr}{sl3:Array (Option Value)}{oc3 kV3 dc3 pm3 cd3 ct3:Value}
 {f4:Addr}{od4 an4:Option Addr}{sl4:Array (Option Value)}{oc4 kV4 dc4 pm4 cd4 ct4:Value}
 {f5:Addr}{od5 an5:Option Addr}{sl5:Array (Option Value)}{oc5 kV5 dc5 pm5 cd5 ct5:Value}
 {f6:Addr}{od6 an6:Option Addr}{sl6:Array (Option Value)}{oc6 kV6 dc6 pm6 cd6 ct6:Value}
 {f7:Addr}{od7 an7:Option Addr}{sl7:Array (Option Value)}{oc7 kV7 dc7 pm7 cd7 ct7:Value}
 {f8:Addr}{od8 an8:Option Addr}{sl8:Array (Option Value)}{oc8 kV8 dc8 pm8 cd8 ct8:Value}
 {f9:Addr}{od9 an9:Option Addr}{sl9:Array (Option Value)}{oc9 kV9 dc9 pm9 cd9 ct9:Value}
 {f10:Addr}{od10 an10:Option Addr}{sl10:Array (Option Value)}{oc10 kV10 dc10 pm10 cd10 ct10:Value}
 {f11:Addr}{od11 an11:Option Addr}{sl11:Array (Option Value)}{oc11 kV11 dc11 pm11 cd11 ct11:Value}
 {f12:Addr}{od12 an12:Option Addr}{sl12:Array (Option Value)}{oc12 kV12 dc12 pm12 cd12 ct12:Value}
 {f13:Addr}{od13 an13:Option Addr}{sl13:Array (Option Value)}{oc13 kV13 dc13 pm13 cd13 ct13:Value}
 {f14:Addr}{od14 an14:Option Addr}{sl14:Array (Option Value)}{oc14 kV14 dc14 pm14 cd14 ct14:Value}
 {f15:Addr}{od15 an15:Option Addr}{sl15:Array (Option Value)}{oc15 kV15 dc15 pm15 cd15 ct15:Value}
 {f16:Addr}{od16 an16:Option Addr}{sl16:Array (Option Value)}{oc16 kV16 dc16 pm16 cd16 ct16:Value}
 {f17:Addr}{od17 an17:Option Addr}{sl17:Array (Option Value)}{oc17 kV17 dc17 pm17 cd17 ct17:Value}
 {f18:Addr}{od18 an18:Option Addr}{sl18:Array (Option Value)}{oc18 kV18 dc18 pm18 cd18 ct18:Value}
 {f19:Addr}{od19 an19:Option Addr}{sl19:Array (Option Value)}{oc19 kV19 dc19 pm19 cd19 ct19:Value}
 {f20:Addr}{od20 an20:Option Addr}{sl20:Array (Option Value)}{oc20 kV20 dc20 pm20 cd20 ct20:Value}
 {f21:Addr}{od21 an21:Option Addr}{sl21:Array (Option Value)}{oc21 kV21 dc21 pm21 cd21 ct21:Value}
 {f22:Addr}{od22 an22:Option Addr}{sl22:Array (Option Value)}{oc22 kV22 dc22 pm22 cd22 ct22:Value}
 {f23:Addr}{od23 an23:Option Addr}{sl23:Array (Option Value)}{oc23 kV23 dc23 pm23 cd23 ct23:Value}
 {f24:Addr}{od24 an24:Option Addr}{sl24:Array (Option Value)}{oc24 kV24 dc24 pm24 cd24 ct24:Value}
 {f25:Addr}{od25 an25:Option Addr}{sl25:Array (Option Value)}{oc25 kV25 dc25 pm25 cd25 ct25:Value}
 {f26:Addr}{od26 an26:Option Addr}{sl26:Array (Option Value)}{oc26 kV26 dc26 pm26 cd26 ct26:Value}
 {f27:Addr}{od27 an27:Option Addr}{sl27:Array (Option Value)}{oc27 kV27 dc27 pm27 cd27 ct27:Value}
 {f28:Addr}{od28 an28:Option Addr}{sl28:Array (Option Value)}{oc28 kV28 dc28 pm28 cd28 ct28:Value}
 {f29:Addr}{od29 an29:Option Addr}{sl29:Array (Option Value)}{oc29 kV29 dc29 pm29 cd29 ct29:Value}
 {f30:Addr}{od30 an30:Option Addr}{sl30:Array (Option Value)}{oc30 kV30 dc30 pm30 cd30 ct30:Value}
 {f31:Addr}{od31 an31:Option Addr}{sl31:Array (Option Value)}{oc31 kV31 dc31 pm31 cd31 ct31:Value}
 {f32:Addr}{od32 an32:Option Addr}{sl32:Array (Option Value)}{oc32 kV32 dc32 pm32 cd32 ct32:Value}
 {f33:Addr}{od33 an33:Option Addr}{sl33:Array (Option Value)}{oc33 kV33 dc33 pm33 cd33 ct33:Value}
 {f34:Addr}{od34 an34:Option Addr}{sl34:Array (Option Value)}{oc34 kV34 dc34 pm34 cd34 ct34:Value}
 {f35:Addr}{od35 an35:Option Addr}{sl35:Array (Option Value)}{oc35 kV35 dc35 pm35 cd35 ct35:Value}
 {f36:Addr}{od36 an36:Option Addr}{sl36:Array (Option Value)}{oc36 kV36 dc36 pm36 cd36 ct36:Value}
 {f37:Addr}{od37 an37:Option Addr}{sl37:Array (Option Value)}{oc37 kV37 dc37 pm37 cd37 ct37:Value}
 {f38:Addr}{od38 an38:Option Addr}{sl38:Array (Option Value)}{oc38 kV38 dc38 pm38 cd38 ct38:Value}
 {f39:Addr}{od39 an39:Option Addr}{sl39:Array (Option Value)}{oc39 kV39 dc39 pm39 cd39 ct39:Value}
 (a0:PySem.W.nsIn K mainGlobals "standings"=some (some (.ref f0))) (l0:K.lookup f0=some ⟨oc0,od0,.func (PySem.W.fnOf "standings" "standings" (defArgs a90) (defBody a90) (defScope a90) .none kV0 dc0 pm0 an0 cd0 ct0),sl0⟩) (c0:PySem.W.codeIn K cd0 "standings"=true) (k0:PySem.W.keepIn K (.ref f0)=true)
 (a1:PySem.W.nsIn K mainGlobals "right_paper"=some (some (.ref f1))) (l1:K.lookup f1=some ⟨oc1,od1,.func (PySem.W.fnOf "right_paper" "right_paper" (defArgs a72) (defBody a72) (defScope a72) .none kV1 dc1 pm1 an1 cd1 ct1),sl1⟩) (c1:PySem.W.codeIn K cd1 "right_paper"=true) (k1:PySem.W.keepIn K (.ref f1)=true)
 (a2:PySem.W.nsIn K mainGlobals "begun_pair"=some (some (.ref f2))) (l2:K.lookup f2=some ⟨oc2,od2,.func (PySem.W.fnOf "begun_pair" "begun_pair" (defArgs a88) (defBody a88) (defScope a88) .none kV2 dc2 pm2 an2 cd2 ct2),sl2⟩) (c2:PySem.W.codeIn K cd2 "begun_pair"=true) (k2:PySem.W.keepIn K (.ref f2)=true)
 (a3:PySem.W.nsIn K mainGlobals "stepped_pair"=some (some (.ref f3))) (l3:K.lookup f3=some ⟨oc3,od3,.func (PySem.W.fnOf "stepped_pair" "stepped_pair" (defArgs a73) (defBody a73) (defScope a73) .none kV3 dc3 pm3 an3 cd3 ct3),sl3⟩) (c3:PySem.W.codeIn K cd3 "stepped_pair"=true) (k3:PySem.W.keepIn K (.ref f3)=true)
 (a4:PySem.W.nsIn K mainGlobals "pair_of"=some (some (.ref f4))) (l4:K.lookup f4=some ⟨oc4,od4,.func (PySem.W.fnOf "pair_of" "pair_of" (defArgs ac3) (defBody ac3) (defScope ac3) .none kV4 dc4 pm4 an4 cd4 ct4),sl4⟩) (c4:PySem.W.codeIn K cd4 "pair_of"=true) (k4:PySem.W.keepIn K (.ref f4)=true)
 (a5:PySem.W.nsIn K mainGlobals "found_paper"=some (some (.ref f5))) (l5:K.lookup f5=some ⟨oc5,od5,.func (PySem.W.fnOf "found_paper" "found_paper" (defArgs a78) (defBody a78) (defScope a78) .none kV5 dc5 pm5 an5 cd5 ct5),sl5⟩) (c5:PySem.W.codeIn K cd5 "found_paper"=true) (k5:PySem.W.keepIn K (.ref f5)=true)
 (a6:PySem.W.nsIn K mainGlobals "gone_through"=some (some (.ref f6))) (l6:K.lookup f6=some ⟨oc6,od6,.func (PySem.W.fnOf "gone_through" "gone_through" (defArgs a74) (defBody a74) (defScope a74) .none kV6 dc6 pm6 an6 cd6 ct6),sl6⟩) (c6:PySem.W.codeIn K cd6 "gone_through"=true) (k6:PySem.W.keepIn K (.ref f6)=true)
 (a7:PySem.W.nsIn K mainGlobals "row_by"=some (some (.ref f7))) (l7:K.lookup f7=some ⟨oc7,od7,.func (PySem.W.fnOf "row_by" "row_by" (defArgs ad8) (defBody ad8) (defScope ad8) .none kV7 dc7 pm7 an7 cd7 ct7),sl7⟩) (c7:PySem.W.codeIn K cd7 "row_by"=true) (k7:PySem.W.keepIn K (.ref f7)=true)
 (a8:PySem.W.nsIn K mainGlobals "counted"=some (some (.ref f8))) (l8:K.lookup f8=some ⟨oc8,od8,.func (PySem.W.fnOf "counted" "counted" (defArgs ac4) (defBody ac4) (defScope ac4) .none kV8 dc8 pm8 an8 cd8 ct8),sl8⟩) (c8:PySem.W.codeIn K cd8 "counted"=true) (k8:PySem.W.keepIn K (.ref f8)=true)
 (a9:PySem.W.nsIn K mainGlobals "pack"=some (some (.ref f9))) (l9:K.lookup f9=some ⟨oc9,od9,.func (PySem.W.fnOf "pack" "pack" (defArgs ag7) (defBody ag7) (defScope ag7) .none kV9 dc9 pm9 an9 cd9 ct9),sl9⟩) (c9:PySem.W.codeIn K cd9 "pack"=true) (k9:PySem.W.keepIn K (.ref f9)=true)
 (a10:PySem.W.nsIn K mainGlobals "sayings_of"=some (some (.ref f10))) (l10:K.lookup f10=some ⟨oc10,od10,.func (PySem.W.fnOf "sayings_of" "sayings_of" (defArgs a83) (defBody a83) (defScope a83) .none kV10 dc10 pm10 an10 cd10 ct10),sl10⟩) (c10:PySem.W.codeIn K cd10 "sayings_of"=true) (k10:PySem.W.keepIn K (.ref f10)=true)
 (a11:PySem.W.nsIn K mainGlobals "pairs_of"=some (some (.ref f11))) (l11:K.lookup f11=some ⟨oc11,od11,.func (PySem.W.fnOf "pairs_of" "pairs_of" (defArgs aa2) (defBody aa2) (defScope aa2) .none kV11 dc11 pm11 an11 cd11 ct11),sl11⟩) (c11:PySem.W.codeIn K cd11 "pairs_of"=true) (k11:PySem.W.keepIn K (.ref f11)=true)
 (a12:PySem.W.nsIn K mainGlobals "texts_in"=some (some (.ref f12))) (l12:K.lookup f12=some ⟨oc12,od12,.func (PySem.W.fnOf "texts_in" "texts_in" (defArgs aa7) (defBody aa7) (defScope aa7) .none kV12 dc12 pm12 an12 cd12 ct12),sl12⟩) (c12:PySem.W.codeIn K cd12 "texts_in"=true) (k12:PySem.W.keepIn K (.ref f12)=true)
 (a13:PySem.W.nsIn K mainGlobals "block"=some (some (.ref f13))) (l13:K.lookup f13=some ⟨oc13,od13,.func (PySem.W.fnOf "block" "block" (defArgs af4) (defBody af4) (defScope af4) .none kV13 dc13 pm13 an13 cd13 ct13),sl13⟩) (c13:PySem.W.codeIn K cd13 "block"=true) (k13:PySem.W.keepIn K (.ref f13)=true)
 (a14:PySem.W.nsIn K mainGlobals "shape_cells"=some (some (.ref f14))) (l14:K.lookup f14=some ⟨oc14,od14,.func (PySem.W.fnOf "shape_cells" "shape_cells" (defArgs a79) (defBody a79) (defScope a79) .none kV14 dc14 pm14 an14 cd14 ct14),sl14⟩) (c14:PySem.W.codeIn K cd14 "shape_cells"=true) (k14:PySem.W.keepIn K (.ref f14)=true)
 (a15:PySem.W.nsIn K mainGlobals "common_pair"=some (some (.ref f15))) (l15:K.lookup f15=some ⟨oc15,od15,.func (PySem.W.fnOf "common_pair" "common_pair" (defArgs a75) (defBody a75) (defScope a75) .none kV15 dc15 pm15 an15 cd15 ct15),sl15⟩) (c15:PySem.W.codeIn K cd15 "common_pair"=true) (k15:PySem.W.keepIn K (.ref f15)=true)
 (a16:PySem.W.nsIn K mainGlobals "block_places"=some (some (.ref f16))) (l16:K.lookup f16=some ⟨oc16,od16,.func (PySem.W.fnOf "block_places" "block_places" (defArgs a76) (defBody a76) (defScope a76) .none kV16 dc16 pm16 an16 cd16 ct16),sl16⟩) (c16:PySem.W.codeIn K cd16 "block_places"=true) (k16:PySem.W.keepIn K (.ref f16)=true)
 (a17:PySem.W.nsIn K mainGlobals "texts_at"=some (some (.ref f17))) (l17:K.lookup f17=some ⟨oc17,od17,.func (PySem.W.fnOf "texts_at" "texts_at" (defArgs aa3) (defBody aa3) (defScope aa3) .none kV17 dc17 pm17 an17 cd17 ct17),sl17⟩) (c17:PySem.W.codeIn K cd17 "texts_at"=true) (k17:PySem.W.keepIn K (.ref f17)=true)
 (a18:PySem.W.nsIn K mainGlobals "cells_in"=some (some (.ref f18))) (l18:K.lookup f18=some ⟨oc18,od18,.func (PySem.W.fnOf "cells_in" "cells_in" (defArgs aa8) (defBody aa8) (defScope aa8) .none kV18 dc18 pm18 an18 cd18 ct18),sl18⟩) (c18:PySem.W.codeIn K cd18 "cells_in"=true) (k18:PySem.W.keepIn K (.ref f18)=true)
 (a19:PySem.W.nsIn K mainGlobals "others_in"=some (some (.ref f19))) (l19:K.lookup f19=some ⟨oc19,od19,.func (PySem.W.fnOf "others_in" "others_in" (defArgs a91) (defBody a91) (defScope a91) .none kV19 dc19 pm19 an19 cd19 ct19),sl19⟩) (c19:PySem.W.codeIn K cd19 "others_in"=true) (k19:PySem.W.keepIn K (.ref f19)=true)
 (a20:PySem.W.nsIn K mainGlobals "room_with"=some (some (.ref f20))) (l20:K.lookup f20=some ⟨oc20,od20,.func (PySem.W.fnOf "room_with" "room_with" (defArgs a92) (defBody a92) (defScope a92) .none kV20 dc20 pm20 an20 cd20 ct20),sl20⟩) (c20:PySem.W.codeIn K cd20 "room_with"=true) (k20:PySem.W.keepIn K (.ref f20)=true)
 (a21:PySem.W.nsIn K mainGlobals "places_by"=some (some (.ref f21))) (l21:K.lookup f21=some ⟨oc21,od21,.func (PySem.W.fnOf "places_by" "places_by" (defArgs a96) (defBody a96) (defScope a96) .none kV21 dc21 pm21 an21 cd21 ct21),sl21⟩) (c21:PySem.W.codeIn K cd21 "places_by"=true) (k21:PySem.W.keepIn K (.ref f21)=true)
 (a22:PySem.W.nsIn K mainGlobals "place_of"=some (some (.ref f22))) (l22:K.lookup f22=some ⟨oc22,od22,.func (PySem.W.fnOf "place_of" "place_of" (defArgs aa9) (defBody aa9) (defScope aa9) .none kV22 dc22 pm22 an22 cd22 ct22),sl22⟩) (c22:PySem.W.codeIn K cd22 "place_of"=true) (k22:PySem.W.keepIn K (.ref f22)=true)
 (a23:PySem.W.findIn K (.ref C_TableMachine) "__init__"=some (some (.ref f23))) (i23:PySem.W.isFn K (.ref f23)=true) (l23:K.lookup f23=some ⟨oc23,od23,.func (PySem.W.fnOf "__init__" "TableMachine.__init__" (defArgs a43) (defBody a43) (defScope a43) .none kV23 dc23 pm23 an23 cd23 ct23),sl23⟩) (c23:PySem.W.codeIn K cd23 "TableMachine.__init__"=true) (k23:PySem.W.keepIn K (.ref f23)=true)
 (a24:PySem.W.findIn K (.ref C_TableMachine) "begin"=some (some (.ref f24))) (i24:PySem.W.isFn K (.ref f24)=true) (l24:K.lookup f24=some ⟨oc24,od24,.func (PySem.W.fnOf "begin" "TableMachine.begin" (defArgs a50) (defBody a50) (defScope a50) .none kV24 dc24 pm24 an24 cd24 ct24),sl24⟩) (c24:PySem.W.codeIn K cd24 "TableMachine.begin"=true) (k24:PySem.W.keepIn K (.ref f24)=true)
 (a25:PySem.W.findIn K (.ref C_TableMachine) "step"=some (some (.ref f25))) (i25:PySem.W.isFn K (.ref f25)=true) (l25:K.lookup f25=some ⟨oc25,od25,.func (PySem.W.fnOf "step" "TableMachine.step" (defArgs a51) (defBody a51) (defScope a51) .none kV25 dc25 pm25 an25 cd25 ct25),sl25⟩) (c25:PySem.W.codeIn K cd25 "TableMachine.step"=true) (k25:PySem.W.keepIn K (.ref f25)=true)
 (a26:PySem.W.findIn K (.ref C_TableMachine) "over"=some (some (.ref f26))) (i26:PySem.W.isFn K (.ref f26)=true) (l26:K.lookup f26=some ⟨oc26,od26,.func (PySem.W.fnOf "over" "TableMachine.over" (defArgs a52) (defBody a52) (defScope a52) .none kV26 dc26 pm26 an26 cd26 ct26),sl26⟩) (c26:PySem.W.codeIn K cd26 "TableMachine.over"=true) (k26:PySem.W.keepIn K (.ref f26)=true)
 (a27:PySem.W.findIn K (.ref C_PackMachine) "__init__"=some (some (.ref f27))) (i27:PySem.W.isFn K (.ref f27)=true) (l27:K.lookup f27=some ⟨oc27,od27,.func (PySem.W.fnOf "__init__" "PackMachine.__init__" (defArgs a46) (defBody a46) (defScope a46) .none kV27 dc27 pm27 an27 cd27 ct27),sl27⟩) (c27:PySem.W.codeIn K cd27 "PackMachine.__init__"=true) (k27:PySem.W.keepIn K (.ref f27)=true)
 (a28:PySem.W.findIn K (.ref C_PackMachine) "begin"=some (some (.ref f28))) (i28:PySem.W.isFn K (.ref f28)=true) (l28:K.lookup f28=some ⟨oc28,od28,.func (PySem.W.fnOf "begin" "PackMachine.begin" (defArgs a53) (defBody a53) (defScope a53) .none kV28 dc28 pm28 an28 cd28 ct28),sl28⟩) (c28:PySem.W.codeIn K cd28 "PackMachine.begin"=true) (k28:PySem.W.keepIn K (.ref f28)=true)
 (a29:PySem.W.findIn K (.ref C_PackMachine) "step"=some (some (.ref f29))) (i29:PySem.W.isFn K (.ref f29)=true) (l29:K.lookup f29=some ⟨oc29,od29,.func (PySem.W.fnOf "step" "PackMachine.step" (defArgs a57) (defBody a57) (defScope a57) .none kV29 dc29 pm29 an29 cd29 ct29),sl29⟩) (c29:PySem.W.codeIn K cd29 "PackMachine.step"=true) (k29:PySem.W.keepIn K (.ref f29)=true)
 (a30:PySem.W.findIn K (.ref C_PackMachine) "over"=some (some (.ref f30))) (i30:PySem.W.isFn K (.ref f30)=true) (l30:K.lookup f30=some ⟨oc30,od30,.func (PySem.W.fnOf "over" "PackMachine.over" (defArgs a58) (defBody a58) (defScope a58) .none kV30 dc30 pm30 an30 cd30 ct30),sl30⟩) (c30:PySem.W.codeIn K cd30 "PackMachine.over"=true) (k30:PySem.W.keepIn K (.ref f30)=true)
 (a31:PySem.W.findIn K (.ref C_PackMachine) "said_by"=some (some (.ref f31))) (i31:PySem.W.isFn K (.ref f31)=true) (l31:K.lookup f31=some ⟨oc31,od31,.func (PySem.W.fnOf "said_by" "PackMachine.said_by" (defArgs a49) (defBody a49) (defScope a49) .none kV31 dc31 pm31 an31 cd31 ct31),sl31⟩) (c31:PySem.W.codeIn K cd31 "PackMachine.said_by"=true) (k31:PySem.W.keepIn K (.ref f31)=true)
 (a32:PySem.W.nsIn K mainGlobals "_law_take"=some (some (.ref f32))) (l32:K.lookup f32=some ⟨oc32,od32,.func (PySem.W.fnOf "_law_take" "_law_take" (defArgs ab0) (defBody ab0) (defScope ab0) .none kV32 dc32 pm32 an32 cd32 ct32),sl32⟩) (c32:PySem.W.codeIn K cd32 "_law_take"=true) (k32:PySem.W.keepIn K (.ref f32)=true)
 (a33:PySem.W.nsIn K mainGlobals "_law_cell"=some (some (.ref f33))) (l33:K.lookup f33=some ⟨oc33,od33,.func (PySem.W.fnOf "_law_cell" "_law_cell" (defArgs ab1) (defBody ab1) (defScope ab1) .none kV33 dc33 pm33 an33 cd33 ct33),sl33⟩) (c33:PySem.W.codeIn K cd33 "_law_cell"=true) (k33:PySem.W.keepIn K (.ref f33)=true)
 (a34:PySem.W.nsIn K mainGlobals "_law_events"=some (some (.ref f34))) (l34:K.lookup f34=some ⟨oc34,od34,.func (PySem.W.fnOf "_law_events" "_law_events" (defArgs a77) (defBody a77) (defScope a77) .none kV34 dc34 pm34 an34 cd34 ct34),sl34⟩) (c34:PySem.W.codeIn K cd34 "_law_events"=true) (k34:PySem.W.keepIn K (.ref f34)=true)
 (a35:PySem.W.nsIn K mainGlobals "_law_said"=some (some (.ref f35))) (l35:K.lookup f35=some ⟨oc35,od35,.func (PySem.W.fnOf "_law_said" "_law_said" (defArgs ab2) (defBody ab2) (defScope ab2) .none kV35 dc35 pm35 an35 cd35 ct35),sl35⟩) (c35:PySem.W.codeIn K cd35 "_law_said"=true) (k35:PySem.W.keepIn K (.ref f35)=true)
 (a36:PySem.W.nsIn K mainGlobals "_law_table"=some (some (.ref f36))) (l36:K.lookup f36=some ⟨oc36,od36,.func (PySem.W.fnOf "_law_table" "_law_table" (defArgs a85) (defBody a85) (defScope a85) .none kV36 dc36 pm36 an36 cd36 ct36),sl36⟩) (c36:PySem.W.codeIn K cd36 "_law_table"=true) (k36:PySem.W.keepIn K (.ref f36)=true)
 (a37:PySem.W.nsIn K mainGlobals "_law_come_to"=some (some (.ref f37))) (l37:K.lookup f37=some ⟨oc37,od37,.func (PySem.W.fnOf "_law_come_to" "_law_come_to" (defArgs a80) (defBody a80) (defScope a80) .none kV37 dc37 pm37 an37 cd37 ct37),sl37⟩) (c37:PySem.W.codeIn K cd37 "_law_come_to"=true) (k37:PySem.W.keepIn K (.ref f37)=true)
 (a38:PySem.W.nsIn K mainGlobals "_law_right"=some (some (.ref f38))) (l38:K.lookup f38=some ⟨oc38,od38,.func (PySem.W.fnOf "_law_right" "_law_right" (defArgs a97) (defBody a97) (defScope a97) .none kV38 dc38 pm38 an38 cd38 ct38),sl38⟩) (c38:PySem.W.codeIn K cd38 "_law_right"=true) (k38:PySem.W.keepIn K (.ref f38)=true)
 (a39:PySem.W.nsIn K mainGlobals "law"=some (some (.ref f39))) (l39:K.lookup f39=some ⟨oc39,od39,.func (PySem.W.fnOf "law" "law" (defArgs ao7) (defBody ao7) (defScope ao7) .none kV39 dc39 pm39 an39 cd39 ct39),sl39⟩) (c39:PySem.W.codeIn K cd39 "law"=true) (k39:PySem.W.keepIn K (.ref f39)=true)
 (z_bool:PySem.W.nsIn K mainGlobals "bool"=some none)
 (z_dict:PySem.W.nsIn K mainGlobals "dict"=some none)
 (z_enumerate:PySem.W.nsIn K mainGlobals "enumerate"=some none)
 (z_isinstance:PySem.W.nsIn K mainGlobals "isinstance"=some none)
 (z_len:PySem.W.nsIn K mainGlobals "len"=some none)
 (z_list:PySem.W.nsIn K mainGlobals "list"=some none)
 (z_max:PySem.W.nsIn K mainGlobals "max"=some none)
 (z_min:PySem.W.nsIn K mainGlobals "min"=some none)
 (z_range:PySem.W.nsIn K mainGlobals "range"=some none)
 (z_set:PySem.W.nsIn K mainGlobals "set"=some none)
 (z_sorted:PySem.W.nsIn K mainGlobals "sorted"=some none)
 (z_sum:PySem.W.nsIn K mainGlobals "sum"=some none)
 (z_tuple:PySem.W.nsIn K mainGlobals "tuple"=some none)
 (z_zip:PySem.W.nsIn K mainGlobals "zip"=some none)
 {u_MOST_STANDINGS:Value}(m_MOST_STANDINGS:PySem.W.nsIn K mainGlobals "MOST_STANDINGS"=some (some u_MOST_STANDINGS))
 (r_MOST_STANDINGS:RelV (.int 2000) u_MOST_STANDINGS)
 {u_HEAD:Value}(m_HEAD:PySem.W.nsIn K mainGlobals "HEAD"=some (some u_HEAD))
 (r_HEAD:RelV (.int 4) u_HEAD)
 : ∃ fd:FuncData,(∀ (s:Shared) (v:Value),BindsTo s fd ⟨[v],[]⟩ [("script",v)])∧∀ base:Heap,K.In base→base.Ns mainGlobals mg→FnOk l.prog w K mg base CX0 8 fa fd ["script"] (ap6 K):=by
 have e:=hfa.symm.trans (PySem.W.mg_of X G a39)
 cases e
 have F0:=a68 (st:=a90) l0 c0 k0
 have b0:=F0.binds (ps:=["machine","events"]) fun _ _ _ _ _ _ us hl=>by obtain ⟨_,_,rfl⟩:=ai8 hl; rfl
 have F1:=a68 (st:=a72) l1 c1 k1
 have b1:=F1.binds (ps:=["one","other","events","paper"]) fun _ _ _ _ _ _ us hl=>by obtain ⟨_,_,_,_,rfl⟩:=c44 hl; rfl
 have F2:=a68 (st:=a88) l2 c2 k2
 have b2:=F2.binds (ps:=["one","other"]) fun _ _ _ _ _ _ us hl=>by obtain ⟨_,_,rfl⟩:=ai8 hl; rfl
 have F3:=a68 (st:=a73) l3 c3 k3
 have b3:=F3.binds (ps:=["one","other","pair","event"]) fun _ _ _ _ _ _ us hl=>by obtain ⟨_,_,_,_,rfl⟩:=c44 hl; rfl
 have F4:=a68 (st:=ac3) l4 c4 k4
 have b4:=F4.binds (ps:=["one","other","told","told_beside"]) fun _ _ _ _ _ _ us hl=>by obtain ⟨_,_,_,_,rfl⟩:=c44 hl; rfl
 have F5:=a68 (st:=a78) l5 c5 k5
 have b5:=F5.binds (ps:=["one","other","events"]) fun _ _ _ _ _ _ us hl=>by obtain ⟨_,_,_,rfl⟩:=b43 hl; rfl
 have F6:=a68 (st:=a74) l6 c6 k6
 have b6:=F6.binds (ps:=["one","other","events"]) fun _ _ _ _ _ _ us hl=>by obtain ⟨_,_,_,rfl⟩:=b43 hl; rfl
 have F7:=a68 (st:=ad8) l7 c7 k7
 have b7:=F7.binds (ps:=["ways","way"]) fun _ _ _ _ _ _ us hl=>by obtain ⟨_,_,rfl⟩:=ai8 hl; rfl
 have F8:=a68 (st:=ac4) l8 c8 k8
 have b8:=F8.binds (ps:=["things"]) fun _ _ _ _ _ _ us hl=>by obtain ⟨_,rfl⟩:=ai7 hl; rfl
 have F9:=a68 (st:=ag7) l9 c9 k9
 have b9:=F9.binds (ps:=["table"]) fun _ _ _ _ _ _ us hl=>by obtain ⟨_,rfl⟩:=ai7 hl; rfl
 have F10:=a68 (st:=a83) l10 c10 k10
 have b10:=F10.binds (ps:=["table"]) fun _ _ _ _ _ _ us hl=>by obtain ⟨_,rfl⟩:=ai7 hl; rfl
 have F11:=a68 (st:=aa2) l11 c11 k11
 have b11:=F11.binds (ps:=["room","sayings"]) fun _ _ _ _ _ _ us hl=>by obtain ⟨_,_,rfl⟩:=ai8 hl; rfl
 have F12:=a68 (st:=aa7) l12 c12 k12
 have b12:=F12.binds (ps:=["sayings"]) fun _ _ _ _ _ _ us hl=>by obtain ⟨_,rfl⟩:=ai7 hl; rfl
 have F13:=a68 (st:=af4) l13 c13 k13
 have b13:=F13.binds (ps:=["cells"]) fun _ _ _ _ _ _ us hl=>by obtain ⟨_,rfl⟩:=ai7 hl; rfl
 have F14:=a68 (st:=a79) l14 c14 k14
 have b14:=F14.binds (ps:=["shape"]) fun _ _ _ _ _ _ us hl=>by obtain ⟨_,rfl⟩:=ai7 hl; rfl
 have F15:=a68 (st:=a75) l15 c15 k15
 have b15:=F15.binds (ps:=["shape"]) fun _ _ _ _ _ _ us hl=>by obtain ⟨_,rfl⟩:=ai7 hl; rfl
 have F16:=a68 (st:=a76) l16 c16 k16
 have b16:=F16.binds (ps:=["cells","place","count"]) fun _ _ _ _ _ _ us hl=>by obtain ⟨_,_,_,rfl⟩:=b43 hl; rfl
 have F17:=a68 (st:=aa3) l17 c17 k17
 have b17:=F17.binds (ps:=["texts","cells","place"]) fun _ _ _ _ _ _ us hl=>by obtain ⟨_,_,_,rfl⟩:=b43 hl; rfl
 have F18:=a68 (st:=aa8) l18 c18 k18
 have b18:=F18.binds (ps:=["cells","place"]) fun _ _ _ _ _ _ us hl=>by obtain ⟨_,_,rfl⟩:=ai8 hl; rfl
 have F19:=a68 (st:=a91) l19 c19 k19
 have b19:=F19.binds (ps:=["shape"]) fun _ _ _ _ _ _ us hl=>by obtain ⟨_,rfl⟩:=ai7 hl; rfl
 have F20:=a68 (st:=a92) l20 c20 k20
 have b20:=F20.binds (ps:=["room","numbers"]) fun _ _ _ _ _ _ us hl=>by obtain ⟨_,_,rfl⟩:=ai8 hl; rfl
 have F21:=a68 (st:=a96) l21 c21 k21
 have b21:=F21.binds (ps:=["events"]) fun _ _ _ _ _ _ us hl=>by obtain ⟨_,rfl⟩:=ai7 hl; rfl
 have F22:=a68 (st:=aa9) l22 c22 k22
 have b22:=F22.binds (ps:=["places","event"]) fun _ _ _ _ _ _ us hl=>by obtain ⟨_,_,rfl⟩:=ai8 hl; rfl
 have F23:=a68 (st:=a43) l23 c23 k23
 have b23:=F23.binds (ps:=["self","table"]) fun _ _ _ _ _ _ us hl=>by obtain ⟨_,_,rfl⟩:=ai8 hl; rfl
 have F24:=a68 (st:=a50) l24 c24 k24
 have b24:=F24.binds (ps:=["self"]) fun _ _ _ _ _ _ us hl=>by obtain ⟨_,rfl⟩:=ai7 hl; rfl
 have F25:=a68 (st:=a51) l25 c25 k25
 have b25:=F25.binds (ps:=["self","standing","event"]) fun _ _ _ _ _ _ us hl=>by obtain ⟨_,_,_,rfl⟩:=b43 hl; rfl
 have F26:=a68 (st:=a52) l26 c26 k26
 have b26:=F26.binds (ps:=["self","standing"]) fun _ _ _ _ _ _ us hl=>by obtain ⟨_,_,rfl⟩:=ai8 hl; rfl
 have F27:=a68 (st:=a46) l27 c27 k27
 have b27:=F27.binds (ps:=["self","pack"]) fun _ _ _ _ _ _ us hl=>by obtain ⟨_,_,rfl⟩:=ai8 hl; rfl
 have F28:=a68 (st:=a53) l28 c28 k28
 have b28:=F28.binds (ps:=["self"]) fun _ _ _ _ _ _ us hl=>by obtain ⟨_,rfl⟩:=ai7 hl; rfl
 have F29:=a68 (st:=a57) l29 c29 k29
 have b29:=F29.binds (ps:=["self","standing","event"]) fun _ _ _ _ _ _ us hl=>by obtain ⟨_,_,_,rfl⟩:=b43 hl; rfl
 have F30:=a68 (st:=a58) l30 c30 k30
 have b30:=F30.binds (ps:=["self","standing"]) fun _ _ _ _ _ _ us hl=>by obtain ⟨_,_,rfl⟩:=ai8 hl; rfl
 have F31:=a68 (st:=a49) l31 c31 k31
 have b31:=F31.binds (ps:=["self","saying"]) fun _ _ _ _ _ _ us hl=>by obtain ⟨_,_,rfl⟩:=ai8 hl; rfl
 have F32:=a68 (st:=ab0) l32 c32 k32
 have b32:=F32.binds (ps:=["state","many"]) fun _ _ _ _ _ _ us hl=>by obtain ⟨_,_,rfl⟩:=ai8 hl; rfl
 have F33:=a68 (st:=ab1) l33 c33 k33
 have b33:=F33.binds (ps:=["script","k","mixed"]) fun _ _ _ _ _ _ us hl=>by obtain ⟨_,_,_,rfl⟩:=b43 hl; rfl
 have F34:=a68 (st:=a77) l34 c34 k34
 have b34:=F34.binds (ps:=["state"]) fun _ _ _ _ _ _ us hl=>by obtain ⟨_,rfl⟩:=ai7 hl; rfl
 have F35:=a68 (st:=ab2) l35 c35 k35
 have b35:=F35.binds (ps:=["state","many"]) fun _ _ _ _ _ _ us hl=>by obtain ⟨_,_,rfl⟩:=ai8 hl; rfl
 have F36:=a68 (st:=a85) l36 c36 k36
 have b36:=F36.binds (ps:=["script"]) fun _ _ _ _ _ _ us hl=>by obtain ⟨_,rfl⟩:=ai7 hl; rfl
 have F37:=a68 (st:=a80) l37 c37 k37
 have b37:=F37.binds (ps:=["rooms"]) fun _ _ _ _ _ _ us hl=>by obtain ⟨_,rfl⟩:=ai7 hl; rfl
 have F38:=a68 (st:=a97) l38 c38 k38
 have b38:=F38.binds (ps:=["rooms","paper"]) fun _ _ _ _ _ _ us hl=>by obtain ⟨_,_,rfl⟩:=ai8 hl; rfl
 have F39:=a68 (st:=ao7) l39 c39 k39
 have b39:=F39.binds (ps:=["script"]) fun _ _ _ _ _ _ us hl=>by obtain ⟨_,rfl⟩:=ai7 hl; rfl
 have TT:Txt K mg ⟨_,_,_,_,_,_,_,_,_,_,_,_,_,_,_,_,_,_,_,_,_,_,_,_,_,_,_,_,_,_,_,_,_,_,_,_,_,_,_,_,_,_,_,_,_,_,_,_,_,_,_,_,_,_,_,_,_,_,_,_,_,_,_,_,_,_,_,_,_,_,_,_,_,_,_,_,_,_,_,_,C_MillError,C_TooMany,C_Machine,C_TableMachine,C_PackMachine,u_MOST_STANDINGS,u_HEAD⟩:=⟨F0,PySem.W.mg_of X G a0,b0,F1,PySem.W.mg_of X G a1,b1,F2,PySem.W.mg_of X G a2,b2,F3,PySem.W.mg_of X G a3,b3,F4,PySem.W.mg_of X G a4,b4,F5,PySem.W.mg_of X G a5,b5,F6,PySem.W.mg_of X G a6,b6,F7,PySem.W.mg_of X G a7,b7,F8,PySem.W.mg_of X G a8,b8,F9,PySem.W.mg_of X G a9,b9,F10,PySem.W.mg_of X G a10,b10,F11,PySem.W.mg_of X G a11,b11,F12,PySem.W.mg_of X G a12,b12,F13,PySem.W.mg_of X G a13,b13,F14,PySem.W.mg_of X G a14,b14,F15,PySem.W.mg_of X G a15,b15,F16,PySem.W.mg_of X G a16,b16,F17,PySem.W.mg_of X G a17,b17,F18,PySem.W.mg_of X G a18,b18,F19,PySem.W.mg_of X G a19,b19,F20,PySem.W.mg_of X G a20,b20,F21,PySem.W.mg_of X G a21,b21,F22,PySem.W.mg_of X G a22,b22,F23,b23,F24,⟨a24,i24,k24⟩,b24,F25,⟨a25,i25,k25⟩,b25,F26,⟨a26,i26,k26⟩,b26,F27,b27,F28,⟨a28,i28,k28⟩,b28,F29,⟨a29,i29,k29⟩,b29,F30,⟨a30,i30,k30⟩,b30,F31,⟨a31,i31,k31⟩,b31,F32,PySem.W.mg_of X G a32,b32,F33,PySem.W.mg_of X G a33,b33,F34,PySem.W.mg_of X G a34,b34,F35,PySem.W.mg_of X G a35,b35,F36,PySem.W.mg_of X G a36,b36,F37,PySem.W.mg_of X G a37,b37,F38,PySem.W.mg_of X G a38,b38,F39,PySem.W.mg_of X G a39,b39,PySem.W.mg_of X G aC_MillError,PySem.W.mg_of X G aC_TooMany,PySem.W.mg_of X G aC_Machine,PySem.W.mg_of X G aC_TableMachine,⟨pg_TableMachine,hd_TableMachine,po_TableMachine,sa_TableMachine⟩,⟨mk_TableMachine,a23,i23,kc_TableMachine⟩,nF_TableMachine_places,nF_TableMachine_rooms,nF_TableMachine_saying,PySem.W.mg_of X G aC_PackMachine,⟨pg_PackMachine,hd_PackMachine,po_PackMachine,sa_PackMachine⟩,⟨mk_PackMachine,a27,i27,kc_PackMachine⟩,nF_PackMachine_cells,nF_PackMachine_places,nF_PackMachine_sayings,nF_PackMachine_shapes,nF_PackMachine_texts,PySem.W.mg_none_of X G z_bool,PySem.W.mg_none_of X G z_dict,PySem.W.mg_none_of X G z_enumerate,PySem.W.mg_none_of X G z_isinstance,PySem.W.mg_none_of X G z_len,PySem.W.mg_none_of X G z_list,PySem.W.mg_none_of X G z_max,PySem.W.mg_none_of X G z_min,PySem.W.mg_none_of X G z_range,PySem.W.mg_none_of X G z_set,PySem.W.mg_none_of X G z_sorted,PySem.W.mg_none_of X G z_sum,PySem.W.mg_none_of X G z_tuple,PySem.W.mg_none_of X G z_zip,PySem.W.mg_of X G m_MOST_STANDINGS,r_MOST_STANDINGS,PySem.W.mg_of X G m_HEAD,r_HEAD⟩
 exact ⟨_,fun s v=>.of_eq rfl,fun base _ _=>ce7 TT⟩
end K76
theorem PySem.Challenge.cw_callmill_k76_whole_paper_of_a_pack_holds : PySem.Challenge.rw_callmill_k76_whole_paper_of_a_pack.Holds := by
  exact K76.head fun K hF w mg fa h KX G hmg => hF w.params _ (@K76.all_mk _ w _ h mg fa KX G hmg)
