import PyProof.Rows.All
import Wide.All
import OpenK.AllK
import Wide.FinOn
import Lean
import PyProof.EqAt
import PyProof.EqKinds
import PyProof.TupleCall
import PyProof.NeKinds
import KE.KIntText
import PyProof.TupleOfStr
import PyProof.ReprRoads
import PyProof.NeData
import PyProof.DictKinds
import PyProof.AttrMiss
import PyProof.IsiH_list
import KE.KDictOf
import KE.KSortTup
import KE.KItemsList
import KE.KDictSum
import PyProof.DictWalks
import PyProof.DictItems
import KE.KDictList
import KE.KEqDict
import KE.KPairComp
import PyProof.DictTruth
import PyProof.MeetsDict
import KE.KLam
import KE.KNestM
import PyProof.Defs
import PyProof.P3In
import PyProof.Rows.SortRev
import PyProof.Rows.Range3
import PySem.Challenge.RW_stairlanes_k64_least_pairs_that_break
set_option Elab.async false
set_option linter.all false
set_option maxRecDepth 100000
local macro_rules|`(tactic|trivial)=>`(tactic|first|exact⟨by rfl,by first|exact Or.inl rfl|exact Or.inr (.inl rfl)|exact Or.inr (.inr rfl),by decide,by decide⟩|exact⟨rfl,rfl,rfl,by decide +kernel,rfl,by decide +kernel,by decide +kernel⟩|exact True.intro|rfl|assumption|exact .inl rfl|exact .inr rfl)
section
open PySem PySem.Spec PyProof.Rows
def J0:=@wpAny_bind
def J6:=@List.getElem?_eq_getElem
def J7:=@wpAny_pure
def J8:=@Heap.get?_push_of_some
def J9:=@List.getElem?_eq_some_iff
def Ja:=@if_neg
def Jb:=@List.getD_eq_getElem?_getD
def Jc:=@Heap.lt_size
def Jd:=@List.mem_singleton
def Je:=@List.not_mem_nil
def Jf:=@if_pos
def Jg:=@Nat.le_refl
def Jh:=@List.mem_cons
def Jj:=@List.size_toArray
def Jm:=@List.length_map
def Jn:=@List.length_append
def Jp:=@wpS_pure
def Jq:=@Bool.false_ne_true
def Jr:=@wpS_bind
def Js:=@Option.some.inj
def Jt:=@Heap.get?_push_size
def Ju:=@Array.length_toList
def Jv:=@decide_eq_false
def Jw:=@Array.size_append
def Jx:=@List.mem_append
def Jy:=@Array.size_push
def Jz:=@List.mem_append_right
def JA:=@Nat.ne_of_lt
def JB:=@List.mem_cons_of_mem
def JC:=@List.mem_cons_self
def JD:=@PySem.W.mg_of
def JE:=@List.length_take
def JF:=@Nat.lt_of_lt_of_le
def JG:=@decide_eq_true
def JH:=@List.mem_map
def JJ:=@List.nodup_cons
def JK:=@Array.getElem?_eq_some_iff
def JL:=@List.getElem?_map
def JM:=@sizeLine_eq
def JN:=@List.map_append
def JP:=@List.mem_of_getElem?
def JQ:=@wpAny_newObj_type
def JR:=@congrArg
def JS:=@Nat.zero_le
def JT:=@Nat.ne_of_gt
def JU:=@wpAny_mono
def JV:=@wpAny_call_entry
def JW:=@List.length_cons
def JX:=@Nat.le_trans
def JY:=@List.append_assoc
def JZ:=@Heap.get?_update_other
def Y0:=@or_false
def Y1:=@wpAny_holding
def Y2:=@decide_eq_false_iff_not
def Y3:=@wpAny_seqItems
def Y4:=@wpAny_setField_rec
def Y5:=@List.replicate_succ
def Y6:=@List.map_cons
def Y7:=@List.take_succ_eq_append_getElem
def Y8:=@Option.map_eq_some_iff
def Y9:=@Heap.get?_update_self
def Ya:=@decide_eq_true_eq
def Yb:=@Bool.false_eq_true
def Yc:=@PySem.W.mg_none_of
def Yd:=@List.append_nil
def Ye:=@Array.toList_append
def Yf:=@List.take_of_length_le
def Yg:=@List.getElem?_append_right
def Yh:=@List.length_replicate
def Yi:=@Array.getElem?_toList
def Yj:=@List.getElem?_append_left
def Yk:=@PyProof.Rows.callWith_type1
def Ym:=@List.mem_append_left
def Yn:=@wpAny_dictEntries
def Yp:=@PySem.F.plainAttrs_list
def Yq:=@List.take_length
def Yr:=@List.getElem_mem
def Ys:=@wpAny_dictEpoch
def Yt:=@Int.toNat_natCast
def Yu:=@PyProof.Rows.slot_tuple_getitem
def Yv:=@if_true
def Yw:=@Nat.zero_add
def Yx:=@PassesOwn.never
def Yy:=@List.forIn_cons
def Yz:=@Nat.lt_irrefl
def YA:=@Int.natCast_emod
def YB:=@wpS_forRange
def YC:=@Int.compare_eq_gt
def YD:=@List.pairwise_append
def YE:=@Bool.eq_iff_iff
def YF:=@List.lookup_cons
def YG:=@List.length_range
def YH:=@Int.compare_eq_lt
def YJ:=@PySem.F.slot_list_append
def YK:=@PySem.F.type_list_append
def YL:=@Nat.add_zero
def YM:=@F.slot_zip_next
def YN:=@List.mem_range
def YQ:=@wpAny_typeOf
def YR:=@wpAny_rule
def YS:=@List.forIn_nil
def YT:=@PySem.boot_len
def YU:=@Heap.SameBut.update
def YV:=@PySem.W.kia_one
def YW:=@List.find?_cons
def YX:=@List.drop_eq_getElem_cons
def YY:=@List.mem_iff_getElem?
def YZ:=@F.plain_min_loop
def Z0:=@Paired.length
def Z2:=@List.take_append_getElem
def Z3:=@wpAny_field
def Z4:=@Heap.size_push
def Z5:=@Around.under_plainId
def Z6:=@List.foldl_append
def Z7:=@Array.toList_push
def Z8:=@Int.compare_eq_eq
def Z9:=@List.length_set
def Za:=@wpAny_updateSeq
def Zb:=@if_false
def Zc:=@wpAny_attempt
def Zd:=@List.length_drop
def Ze:=@wpAny_Call_Name_kw
def Zf:=@wpS_mono
def Zg:=@List.getElem?_zip_eq_some
def Zh:=@List.extract_eq_take_drop
def Zi:=@List.getElem?_eq_none_iff
def Zj:=@wpAny_specialOf
def Zk:=@codeAny_builtin
def Zm:=@List.mem_iff_getElem
def Zn:=@not_or
def Zp:=@PySem.mem_of_lookup
def Zq:=@List.all_eq_true
def Zr:=@wpAny_isInstance
def Zs:=@List.nodup_nil
def Zt:=@wpAny_letGo
def Zu:=@Calls.spliced_cons
def Zv:=@List.map_map
def Zw:=@Nat.lt_trans
def Zx:=@Int.le_trans
def Zy:=@List.nil_append
def Zz:=@Int.emod_nonneg
def ZA:=@Nat.add_assoc
def ZB:=@plainId_quiet
def ZC:=@List.take_append_drop
def ZD:=@List.perm_append_comm
def ZE:=@Nat.lt_succ_of_lt
def ZF:=@Int.lt_trichotomy
def ZG:=@Array.toList_extract
def ZH:=@Bool.and_eq_true
def ZJ:=@Option.getD_some
def ZK:=@Array.getElem?_eq_getElem
def ZL:=@beq_eq_false_iff_ne
def ZM:=@Option.isSome_iff_exists
def ZN:=@List.getElem?_take_of_lt
def ZP:=@wpAny_passesOwn
def ZQ:=@List.foldl_cons
def ZR:=@size_of_entries
def ZS:=@List.filterMap_map
def ZT:=@Int.emod_lt_of_pos
def ZU:=@List.length_eq_zero_iff
def ZV:=@wpAny_truthy_bool
def ZW:=@Calls.spliced_nil
def ZX:=@Calls.callWith_builtin
def ZY:=@of_decide_eq_true
def ZZ:=@Bool.not_eq_true'
def W0:=@F.args_zip_next_1
def W5:=@List.ext_getElem
def W6:=@Nat.mod_lt
def W7:=@F.entry_zip_next
def W8:=@wpAny_typeNameOfWhole_itemiter
def W9:=@wpAny_standAt
def Wa:=@List.cons.inj
def Wb:=@Int.le_refl
def Wc:=@List.mem_of_mem_take
def Wd:=@wpAny_typeNameOfWhole_keyiter
def We:=@F.slot_dict_itemiterator_next
def Wf:=@Bool.or_eq_true
def Wg:=@List.length_nil
def Wh:=@F.slot_dict_keyiterator_next
def Wi:=@List.length_zip
def Wj:=@List.map_congr_left
def Wk:=@Array.toList_modify
def Wm:=@F.plain_extend_loop
def Wn:=@List.length_pos_iff
def Wp:=@wpS_get
def Wq:=@Nat.pow_succ
def Wr:=@Int.zero_add
def Ws:=@slicePart_none
def Wt:=@Heap.IsSliceOf.new
def Wu:=@call_meets
def Wv:=@wpAny_newTuple
def Ww:=@List.drop_zero
def Wx:=@wpS_modify
def Wy:=@List.pairwise_cons
def Wz:=@Bool.not_eq_false'
def WA:=@List.take_zero
def WB:=@List.flatten_cons
def WC:=@AutoSeq1.wpAny_loadPart'
def WD:=@wpAny_onRaise
def WE:=@List.eq_of_mem_replicate
end
namespace L2
open PySem PySem.Spec PyProof.Rows
abbrev Key:=Sum Int Str
def zf4:Key->Value->Bool
  | .inl k,v=>Value.isInt k v
  | .inr x,v=>Value.isStrOf x v
def keyH (w:World):Key->Int
  | .inl k=>hashInt k
  | .inr x=>hashStr w x
theorem zaG:∀ {k:Key}{v:Value},zf4 k v=true->(∃ i t,k=Sum.inl i/\v=Value.int i t)\/(∃ x t,k=Sum.inr x/\v=Value.str x t)
  | .inl i,v,h=>by
    obtain⟨t,e⟩:=Value.isInt_shape (k:=i) (v:=v) h
    exact .inl ⟨i,t,rfl,e⟩
  | .inr x,v,h=>by
    obtain⟨t,e⟩:=Value.isStrOf_shape (x:=x) (v:=v) h;exact .inr ⟨x,t,rfl,e⟩
theorem zjl (i:Int) (t:Tok):zf4 (.inl i) (.int i t)=true:=by simp[zf4,Value.isInt]
theorem zjk (x:Str) (t:Tok):zf4 (.inr x) (.str x t)=true:=by simp[zf4,Value.isStrOf]
theorem znU (a b:Int):decide ((Sum.inl a:Key)=Sum.inl b)=(a == b):=by
  by_cases e:a=b
  · subst e;simp
  · have h:¬(Sum.inl a:Key)=Sum.inl b:=λq=>e (Sum.inl.inj q)
    rw[Jv h];exact(ZL.mpr e).symm
theorem znQ (a b:Str):decide ((Sum.inr a:Key)=Sum.inr b)=decide (a=b):=by
  by_cases e:a=b
  · subst e;simp
  · have h:¬(Sum.inr a:Key)=Sum.inr b:=λq=>e (Sum.inr.inj q)
    rw[Jv h,Jv e]
theorem znT (a:Int) (b:Str):decide ((Sum.inl a:Key)=Sum.inr b)=false:=Jv (λq=>nomatch q)
theorem znR (a:Str) (b:Int):decide ((Sum.inr a:Key)=Sum.inl b)=false:=Jv (λq=>nomatch q)
def zaZ (prog:Program) (w:World):PySem.KeyKind prog w Key where
  is:=zf4
  hash:=keyH w
  inj:=λv a b ha hb=>by
    rcases zaG ha with ⟨i,t,rfl,rfl⟩|⟨x,t,rfl,rfl⟩
    · rcases zaG hb with ⟨j,u,rfl,e⟩|⟨y,u,rfl,e⟩
      · injection e with c _;rw[c]
      · exact nomatch e
    · rcases zaG hb with ⟨j,u,rfl,e⟩|⟨y,u,rfl,e⟩
      · exact nomatch e
      · injection e with c _;rw[c]
  byValue:=λk v h=>by
    rcases zaG h with ⟨i,t,rfl,rfl⟩|⟨x,t,rfl,rfl⟩<;>rfl
  pyHash:=λd h=>by
    rcases zaG d with ⟨i,t,rfl,rfl⟩|⟨x,t,rfl,rfl⟩
    · exact wpAny_pyHash_int h
    · exact wpAny_pyHash_str h
  eqBool:=λf d h=>by
    rcases zaG f with ⟨i,t,rfl,rfl⟩|⟨x,t,rfl,rfl⟩
    · rcases zaG d with ⟨j,u,rfl,rfl⟩|⟨y,u,rfl,rfl⟩
      · rw[znU]at h;exact wpAny_eqBool_int h
      · rw[znT]at h;exact SeqAt.EqAt.int_str i t y u _ _ _ _ h
    · rcases zaG d with ⟨j,u,rfl,rfl⟩|⟨y,u,rfl,rfl⟩
      · rw[znR]at h;exact SeqAt.EqAt.str_int x t j u _ _ _ _ h
      · rw[znQ]at h;exact wpAny_eqBool_str h
  «strs»:=λk x t v h=>by
    rcases zaG h with ⟨i,u,rfl,e⟩|⟨y,u,rfl,e⟩
    · exact nomatch e
    · injection e with c _
      subst c;cases v<;>rfl
theorem zhu (prog:Program) (w:World) (k:Key) (v:Value):(zaZ prog w).is k v=zf4 k v:=rfl
theorem zfW (prog:Program) (w:World) (i:Int) (t:Tok):(zaZ prog w).is (.inl i) (.int i t)=true:=zjl i t
theorem zfV (prog:Program) (w:World) (x:Str) (t:Tok):(zaZ prog w).is (.inr x) (.str x t)=true:=zjk x t
inductive V where
  | non|bl (b:Bool)|int (i:Int)|str (x:Str)|byt (b:Array UInt8)|flt (b:UInt64)|ref (a:Addr)|ty (n:String)
  deriving DecidableEq
def RelV:V->Value->Prop
  | .non,u=>u=Value.none
  | .bl b,u=>u=Value.bool b
  | .int i,u=>∃ t,u=Value.int i t
  | .str x,u=>∃ t,u=Value.str x t
  | .byt b,u=>∃ t,u=Value.bytes b t
  | .flt b,u=>∃ t,u=Value.float b t
  | .ref a,u=>u=Value.ref a
  | .ty n,u=>u=Value.type n
abbrev Vals:List V->List Value->Prop:=Paired RelV
theorem Vals.length {xs:List V}{us:List Value}(r:Vals xs us):xs.length=us.length:=Z0 r
theorem Vals.get:∀ {xs:List V}{us:List Value}{i:Nat}{x:V},Vals xs us->xs[i]?=some x->∃ u,us[i]?=some u/\RelV x u
  | _,_,_,_,.nil,e=>by simp at e
  | _,_,0,_,.cons r _,e=>by simp at e;subst e;exact⟨_,rfl,r⟩
  | _,_,i+1,x,.cons _ t,e=>by
    obtain⟨u,h1,a⟩:=Vals.get (i:=i) (x:=x) t (by simpa using e);exact⟨u,by simpa using h1,a⟩
theorem Vals.set {x:V}{u:Value}(r:RelV x u):∀ {xs:List V}{us:List Value}(i:Nat),Vals xs us->Vals (xs.set i x) (us.set i u)
  | _,_,_,.nil=>.nil
  | _,_,0,.cons _ t=>.cons r t
  | _,_,i+1,.cons q t=>.cons q (Vals.set r i t)
theorem Vals.append:∀ {xs ys:List V}{us ws:List Value},Vals xs us->Vals ys ws->Vals (xs++ys) (us++ws)
  | _,_,_,_,.nil,s=>s
  | _,_,_,_,.cons r t,s=>.cons r (Vals.append t s)
theorem Vals.take:∀ {xs:List V}{us:List Value}(n:Nat),Vals xs us->Vals (xs.take n) (us.take n)
  | _,_,0,_=>.nil
  | _,_,_+1,.nil=>.nil
  | _,_,n+1,.cons r t=>.cons r (Vals.take n t)
theorem Vals.drop:∀ {xs:List V}{us:List Value}(n:Nat),Vals xs us->Vals (xs.drop n) (us.drop n)
  | _,_,0,r=>r
  | _,_,_+1,.nil=>.nil
  | _,_,n+1,.cons _ t=>Vals.drop n t
def RelO:Option V->Option Value->Prop
  | some v,some u=>RelV v u
  | none,none=>True
  | _,_=>False
def KV {κ:Type}:List (κ × V)->List (κ × Value)->Prop:=Paired λ(p:κ × V) (q:κ × Value)=>p.1=q.1/\RelV p.2 q.2
def kV:Key->V
  | .inl i=>.int i
  | .inr x=>.str x
inductive HO where
  | lst (xs:List V)
  | tup (xs:List V)
  | dK (kvs:List (Key × V))|dT (kvs:List (List Key × V))
  | set (S:Int->Bool) (n:Nat)
  | ins (C dx:Addr) (fs:List (Str × V))
  | own (x:Addr)
  | xd (fs:List (Str × V))
  | met (f x:Addr)
  | rng (lo hi:Int)
  | frz (o:Obj) (u:HO)
  | tbl (ps:Array Value)
  | ext (φ:Heap->Prop)
abbrev Hp:=Addr->Option HO
def upd (H:Hp) (a:Addr) (o:HO):Hp:=λb=>if b=a then some o else H b
theorem zab {H:Hp}{a:Addr}{o:HO}:upd H a o a=some o:=by unfold upd;rw[Jf rfl]
theorem zag {H:Hp}{a b:Addr}{o:HO}(h:b≠a):upd H a o b=H b:=by unfold upd;rw[Ja h]
theorem zcR {H:Hp}{a b:Addr}{o u:HO}(h:H a=some o) (h':H b=some u) (d:o≠u):a≠b:=by
  intro e;subst e;rw[h]at h';exact d (Js h')
theorem zae {H:Hp}{a b:Addr}{o:HO}(h:H a=some o) (h':H b=none):a≠b:=by
  intro e;subst e;rw[h]at h';cases h'
def TupX (h:Heap) (a:Addr) (items:Array Value):Prop:=∃ o,h.get? a=some o/\o.cls=.type "tuple"/\∃ n,o.data=.seq items n/\o.dict=none
theorem TupX.tup {h:Heap}{a:Addr}{items:Array Value}(x:TupX h a items):IsTup h a items:=let ⟨o,e,c,n,d,_⟩:=x;⟨o,e,c,n,d⟩
theorem TupX.new (h:Heap) (items:Array Value):TupX (h.push { cls:=.type "tuple",data:=.seq items }) h.objs.size items:=⟨_,Jt _ rfl,rfl,0,rfl,rfl⟩
section
variable (P:Program)(w:World)
def ObjOk (H:Hp) (h:Heap) (a:Addr):HO->Prop
  | .lst xs=>xs.length<=sizeLine/\∃ (its:List Value) (n:Nat),Vals xs its/\h.get? a=some { cls:=.type "list",data:=.seq its.toArray n }
  | .tup xs=>xs.length<=sizeLine/\∃ its:List Value,Vals xs its/\TupX h a its.toArray
  | .dK kvs=>kvs.length<=sizeLine/\(a == sysModules)=false/\∃ vs,KV kvs vs/\h.DictOf (zaZ P w) a vs
  | .dT kvs=>kvs.length<=sizeLine/\(a == sysModules)=false/\∃ xs:List (List Key × Addr × Value),
      Paired (λ(p:List Key × V) (q:List Key × Addr × Value)=>p.1=q.1/\H q.2.1=some (.tup (p.1.map kV))/\RelV p.2 q.2.2) kvs xs /\
      ∃ o es ep,h.get? a=some o/\o.ExactDict/\o.data=.dict es ep/\es.toList=xs.map (entryOfKey (tupleKind (zaZ P w)))/\(xs.map (·.1)).Nodup
  | .set S n=>h.SetOf (intKind P w) a S n
  | .ins C dx fs=>H dx=some (.own a)/\fs.length<=1000/\dx≠a/\h.get? a=some (PySem.W.instObj C dx) /\
      ∃ mA,h.Ns1 dx mA/\(∀ f,RelO (fs.lookup f) (mA f))/\PySem.Within mA (fs.map (·.1))
  | .own _=>∃ o,h.get? a=some o
  | .xd fs=>∃ mA,h.Ns1 a mA/\∀ f,RelO (fs.lookup f) (mA f)
  | .rng lo hi=>∃ t u v,h.get? a=some { cls:=.type "range",data:=.fields #[.int lo t,.int hi u,.int 1 v] }
  | .frz o u=>h.get? a=some o/\ObjOk H h a u
  | .tbl ps=>h.get? a=some { cls:=.none,data:=.fields ps }
  | .met f x=>h.get? a=some (PySem.W.methodObj (.ref f) (.ref x))
  | .ext φ=>φ h/\(∃ o,h.get? a=some o)/\∀ h1 b:Heap,φ h1->(∀ o,h1.get? a=some o->b.get? a=some o)->φ b
def HOk (H:Hp) (h:Heap):Prop:=∀ a o,H a=some o->ObjOk P w H h a o
end
section
variable {P:Program}{w:World}{H H':Hp}{h h':Heap}{a:Addr}{o:HO}
theorem ObjOk.lt (x:ObjOk P w H h a o):a<h.objs.size:=by
  cases o with
  | lst xs=>obtain⟨_,_,_,_,e⟩:=x;exact Jc e
  | tup xs=>obtain⟨_,_,_,p⟩:=x;exact p.tup.lt
  | dK kvs=>obtain⟨_,_,_,_,o,_,_,e,_⟩:=x;exact Jc e
  | dT kvs=>obtain⟨_,_,_,_,o,_,_,e,_⟩:=x;exact Jc e
  | set S n=>obtain⟨o,_,_,_,e,_⟩:=x;exact Jc e
  | ins C dx fs=>obtain⟨_,_,_,e,_⟩:=x;exact Jc e
  | own y=>obtain⟨_,e⟩:=x;exact Jc e
  | xd fs=>obtain⟨_,⟨_,_,_,e,_⟩,_⟩:=x;exact Jc e
  | rng lo hi=>obtain⟨_,_,_,e⟩:=x;exact Jc e
  | frz ob u=>obtain⟨e,_⟩:=x;exact Jc e
  | tbl ps=>exact Jc (show h.get? a=some _ from x)
  | met f y=>exact Jc (show h.get? a=some _ from x)
  | ext φ=>obtain⟨_,⟨_,e⟩,_⟩:=x;exact Jc e
theorem Paired.mapP {α β:Type}{F G:α->β->Prop}:∀ {l₁:List α}{l₂:List β},Paired F l₁ l₂->(∀ a b,F a b->G a b)->Paired G l₁ l₂
  | _,_,.nil,_=>.nil
  | _,_,.cons r t,f=>.cons (f _ _ r) (Paired.mapP t f)
theorem ObjOk.stay (x:ObjOk P w H h a o) (k:∀ b u,(b=a\/H b=some (.own a))->h.get? b=some u->h'.get? b=some u)
    (i:∀ b,H b=some (.own a)->H' b=some (.own a)) (g:∀ b xs,H b=some (.tup xs)->H' b=some (.tup xs)):ObjOk P w H' h' a o:=by
  induction o with
  | lst xs=>obtain⟨z,its,n,r,e⟩:=x;exact⟨z,its,n,r,k _ _ (.inl rfl) e⟩
  | tup xs=>obtain⟨z,its,r,ob,e,c⟩:=x;exact⟨z,its,r,ob,k _ _ (.inl rfl) e,c⟩
  | dK kvs=>obtain⟨z,y,vs,r,ob,es,ep,e,c⟩:=x;exact⟨z,y,vs,r,ob,es,ep,k _ _ (.inl rfl) e,c⟩
  | dT kvs =>
    obtain⟨z,y,xs,r,ob,es,ep,e,c⟩:=x
    exact⟨z,y,xs,Paired.mapP r λp q z=>⟨z.1,g _ _ z.2.1,z.2.2⟩,ob,es,ep,k _ _ (.inl rfl) e,c⟩
  | set S n=>obtain⟨ob,es,ep,t,e,c⟩:=x;exact⟨ob,es,ep,t,k _ _ (.inl rfl) e,c⟩
  | ins C dx fs =>
    obtain⟨d,z,ne,e,mA,⟨od,es,ep,e2,c⟩,r⟩:=x
    exact⟨i _ d,z,ne,k _ _ (.inl rfl) e,mA,⟨od,es,ep,k _ _ (.inr d) e2,c⟩,r⟩
  | own y=>obtain⟨ob,e⟩:=x;exact⟨ob,k _ _ (.inl rfl) e⟩
  | xd fs=>obtain⟨mA,⟨od,es,ep,e,c⟩,r⟩:=x;exact⟨mA,⟨od,es,ep,k _ _ (.inl rfl) e,c⟩,r⟩
  | rng lo hi=>obtain⟨t,u,v,e⟩:=x;exact⟨t,u,v,k _ _ (.inl rfl) e⟩
  | frz ob u ih=>obtain⟨e,q⟩:=x;exact⟨k _ _ (.inl rfl) e,ih q⟩
  | tbl ps =>
    have e:h.get? a=some { cls:=.none,data:=.fields ps }:=x;show h'.get? a=some { cls:=.none,data:=.fields ps }
    exact k a _ (.inl rfl) e
  | met f y =>
    have e:h.get? a=some (PySem.W.methodObj (.ref f) (.ref y)):=x;show h'.get? a=some (PySem.W.methodObj (.ref f) (.ref y))
    exact k a _ (.inl rfl) e
  | ext φ=>obtain⟨p,⟨o,e⟩,st⟩:=x;exact⟨st _ _ p λo q=>k _ _ (.inl rfl) q,⟨o,k _ _ (.inl rfl) e⟩,st⟩
theorem HOk.lt (x:HOk P w H h) (e:H a=some o):a<h.objs.size:=(x a o e).lt
theorem HOk.fresh (x:HOk P w H h) (e:h.objs.size<=a):H a=none:=by
  cases q:H a with
  | none=>rfl
  | some u=>exact absurd (JF (x.lt q) e) (Yz _)
theorem HOk.kept (x:HOk P w H h) (k:∀ b u,h.get? b=some u->h'.get? b=some u):HOk P w H h':=λa o e =>
  (x a o e).stay (λb u _ q=>k b u q) (λ_ q=>q) λ_ _ q=>q
theorem HOk.laid (x:HOk P w H h) (k:∀ b u,h.get? b=some u->h'.get? b=some u) (d:h.objs.size<=a) (new:ObjOk P w (upd H a o) h' a o):HOk P w (upd H a o) h':=λb u e=>by
  have hn:=x.fresh d;by_cases hb:b=a
  · subst hb;rw[zab]at e;cases e;exact new
  · rw[zag hb]at e
    exact(x b u e).stay (λc v _ q=>k c v q) (λc q=>by rw[zag (zae q hn)];exact q) λc xs q=>by rw[zag (zae q hn)];exact q
end
def Rd (H:Hp) (a:Addr) (u:HO):Prop:=H a=some u\/∃ o,H a=some (.frz o u)
theorem Rd.ok {P:Program}{w:World}{H:Hp}{h:Heap}{a:Addr}{u:HO}(r:Rd H a u) (x:HOk P w H h):ObjOk P w H h a u:=by
  rcases r with r|⟨o,r⟩
  · exact x a u r
  · obtain⟨_,q⟩:=x a _ r
    exact q
def Mut:Option HO->Prop
  | some (.lst _)=>True
  | some (.dK _)=>True
  | some (.dT _)=>True
  | some (.set _ _)=>True
  | some (.ins _ _ _)=>True
  | some (.ext _)=>True
  | _=>False
section
variable {P:Program}{w:World}{H:Hp}{h h':Heap}{x e:Addr}{o':HO}
theorem HOk.write (ok:HOk P w H h) (g:Mut (H x)) (m:e=x\/H e=some (.own x)) (k:∀ b u,b≠e->h.get? b=some u->h'.get? b=some u) (j:∃ u,h'.get? e=some u)
    (new:ObjOk P w (upd H x o') h' x o'):HOk P w (upd H x o') h':=λb u q=>by
  have d:∀ c y,H c=some (.own y)->c≠x:=λc y r z=>by subst z;rw[r]at g;exact g
  have f:∀ c xs,H c=some (.tup xs)->c≠x:=λc xs r z=>by subst z;rw[r]at g;exact g
  by_cases hb:b=x
  · subst hb;rw[zab]at q;cases q;exact new
  · rw[zag hb]at q
    by_cases a:b=e
    · have l:H b=some (.own x):=by
        rcases m with z|z
        · exact absurd (a.trans z) hb
        · rw[a];exact z
      rw[q]at l;cases l;obtain⟨v,n⟩:=j;exact⟨v,by rw[a];exact n⟩
    · refine(ok b u q).stay (λc v i r=>k c v ?_ r) (λc r=>by rw[zag (d c b r)];exact r) λc xs r=>by rw[zag (f c xs r)];exact r
      rcases i with rfl|i
      · exact a
      · rintro rfl
        rcases m with z|z
        · exact d c b i z
        · rw[i]at z;cases z;exact hb rfl
end
structure Un (fs ex:List Addr) (H H':Hp) (h h':Heap):Prop where
  keep:∀ b o,h.get? b=some o->H b=none->b∉fs->b∉ex->h'.get? b=some o
  slot:∀ b o,h.get? b=some o->H b=none->b∈fs->b∉ex->∃ sl,h'.get? b=some { o with slots:=sl }
  free:∀ b o,h.get? b=some o->H b=none->b∉ex->H' b=none
  there:∀ b o,h.get? b=some o->b∉ex->∃ o',h'.get? b=some o'
  tups:∀ b xs,H b=some (.tup xs)->H' b=some (.tup xs)
  frzs:∀ b o u,H b=some (.frz o u)->H' b=some (.frz o u)
  tbls:∀ b ps,H b=some (.tbl ps)->∃ more,H' b=some (.tbl (ps++more))
section
variable {fs ex:List Addr}{H H1:Hp}{h h1 h':Heap}{a x e:Addr}{o:HO}
theorem Un.any (u:Un fs ex H H1 h h1) {b:Addr}{ob:Obj}(q:h.get? b=some ob) (n:H b=none) (a:b∉ex):∃ sl,h1.get? b=some { ob with slots:=sl }:=by
  by_cases hb:b∈fs
  · exact u.slot b ob q n hb a
  · exact⟨ob.slots,u.keep b ob q n hb a⟩
theorem Un.kept (k:∀ b u,h.get? b=some u->h'.get? b=some u):Un fs ex H H h h' :=
  ⟨λb ob q _ _ _=>k b ob q,λb ob q _ _ _=>⟨ob.slots,k b ob q⟩,λ_ _ _ n _=>n,λb ob q _=>⟨ob,k b ob q⟩,λ_ _ q=>q,λ_ _ _ q=>q,λ_ ps q=>⟨#[],by rw[q];simp⟩⟩
theorem Un.refl:Un fs ex H H h h:=Un.kept λ_ _ q=>q
theorem Un.laid (k:∀ b u,h.get? b=some u->h'.get? b=some u) (c:h.objs.size<=a) (hn:H a=none):Un fs ex H (upd H a o) h h' where
  keep:=λb u q _ _ _=>k b u q
  slot:=λb u q _ _ _=>⟨u.slots,k b u q⟩
  free:=λb u q n _=>by rw[zag (JA (JF (Jc q) c))];exact n
  there:=λb u q _=>⟨u,k b u q⟩
  tups:=λb xs q=>by rw[zag (zae q hn)];exact q
  frzs:=λb u xs q=>by rw[zag (zae q hn)];exact q
  tbls:=λb ps q=>⟨#[],by rw[zag (zae q hn),q];simp⟩
theorem Un.write (c:Mut (H x)) (g:e=x\/H e=some (.own x)) (k:∀ b u,b≠e->h.get? b=some u->h'.get? b=some u) (d:∃ u,h'.get? e=some u):Un fs ex H (upd H x o) h h':=by
  have f:∀ b,H b=none->b≠x:=λb n z=>by subst z;rw[n]at c;exact c
  have hb:∀ b,H b=none->b≠e:=λb n z=>by
    subst z;rcases g with r|r
    · exact f b n r
    · rw[n]at r;cases r
  have hm:∀ b u,H b=some u->¬ Mut (some u)->b≠x:=λb u q nm z=>by subst z;rw[q]at c;exact nm c
  refine⟨λb u q n _ _=>k b u (hb b n) q,λb u q n _ _=>⟨u.slots,k b u (hb b n) q⟩,λb u q n _=>by rw[zag (f b n)];exact n,λb u q _=>?_,
    λb xs q=>by rw[zag (hm b _ q λz=>z)];exact q,λb u xs q=>by rw[zag (hm b _ q λz=>z)];exact q,λb ps q=>⟨#[],by rw[zag (hm b _ q λz=>z),q];simp⟩⟩
  by_cases a:b=e
  · subst a;exact d
  · exact⟨u,k b u a q⟩
end
def trk (h:Heap) (H:Hp):List Addr:=(List.range h.objs.size).filter λa=>(H a).isSome
def hidT (h:Heap) (H:Hp):Heap:=PySem.W.hideAll h (trk h H)
theorem zjq (h:Heap) (H:Hp):(hidT h H).objs.size=h.objs.size:=PySem.W.hideAll_size _ _
theorem zk9 {h:Heap}{H:Hp}{b:Addr}{o:Obj}(e:h.get? b=some o) (n:H b=none):(hidT h H).get? b=some o :=
  PySem.W.hideAll_get _ e λhm=>by
    have q:(H b).isSome=true:=(List.mem_filter.mp hm).2;rw[n]at q;simp at q
theorem zmD {h:Heap}{H:Hp}{b:Addr}{o:Obj}(e:(hidT h H).get? b=some o):h.get? b=some o/\H b=none:=by
  have a:h.get? b=some o:=PySem.W.of_hideAll (trk h H) e;refine⟨a,?_⟩
  cases q:H b with
  | none=>rfl
  | some x =>
    have hm:b∈trk h H:=List.mem_filter.mpr ⟨YN.mpr (Jc a),by simp[q]⟩;have z:(hidT h H).get? b=none:=PySem.W.hideAll_none (trk h H) hm;rw[z]at e;cases e
def znd (g h:Heap) (L:Addr):List (Addr × Obj):=(List.range h.objs.size).filterMap λa=>if a=L\/(g.get? a).isSome=true then none else (h.get? a).map λo=>(a,o)
def rest (g h:Heap) (L d:Addr):List (Addr × Obj):=(znd g h L).filter λp=>decide (p.1≠d)
structure Mod (K:PySem.W.Frag) (mg:Str->Option Value) (base:Heap):Prop where
  kin:K.In base
  glob:base.Ns mainGlobals mg
  blt:∃ mb,base.Ns builtinsNs mb/\∀ x:Str,x≠"__name__"->mb x=bootBuiltins x
  nolimit:base.NoLimit
structure Cx where
  prog:Program
  w:World
  K:PySem.W.Frag
  mg:Str->Option Value
  base:Heap
  A:Around
  N:List Str
  s₀:Shared
  H₀:Hp
  env:Env
  outer:List Env
  stack:List Env
  ex:List Addr
  fn:Str->Bool
  calm:Bool
  pn:List (Addr × Obj)
  xe:Value->Shared->Prop
def frs (l:List Env):List Addr:=l.filterMap (·.frame)
abbrev Cx.fs (X:Cx):List Addr:=frs X.outer
def Vis (sc:Scope) (x:Str):Prop:=sc.names.lookup x=some .local \/ sc.names.lookup x=some .cell\/sc.names.lookup x=some .free
def Loc (sc:Scope) (x:Str):Prop:=sc.names.lookup x=some .local \/ sc.names.lookup x=some .cell
def Look (env:Env) (h:Heap) (m:Str->Option Value) (x:Str) (u:Value):Prop :=
  (env.kindOf x=some .local /\ m x=some u)\/((env.kindOf x=some .cell\/env.kindOf x=some .free)/\∃ c,env.cells.lookup x=some c/\h.IsCell c (some u))
structure Cx.Ok (X:Cx):Prop where
  mod:Mod X.K X.mg X.base
  kind:X.env.scope.kind=.function
  glob:X.env.globals=mainGlobals
  blt:X.env.builtins=builtinsNs
  above:X.s₀.heap.objs.size<=X.env.locals
  inj:∀ x y c,X.env.cells.lookup x=some c->X.env.cells.lookup y=some c->x=y
  has:∀ x,(X.env.kindOf x=some .cell\/X.env.kindOf x=some .free)->∃ c,X.env.cells.lookup x=some c
  cab:∀ x c,X.fn x=true->X.env.cells.lookup x=some c->X.s₀.heap.objs.size<=c
  hd:X.calm=true->X.A.handled=none
  frames:X.A.frames=some X.stack
  stk:X.stack=X.outer\/(X.stack=X.env::X.outer/\X.env.frame=some X.env.locals)
  exf:∀ b∈X.ex,b≠X.env.locals/\∀ x c,X.env.cells.lookup x=some c->c≠b
  bs:∀ b o,X.base.get? b=some o->X.s₀.heap.get? b=some o/\X.H₀ b=none
  bsz:X.base.objs.size<=X.s₀.heap.objs.size
  noex:∀ b o,X.base.get? b=some o->b∉X.ex
  exfs:∀ b∈X.ex,b∉X.fs
  funs:X.s₀.heap.FunFrames X.base X.outer
  frf:∀ b∈X.fs,X.H₀ b=none
structure Inv (X:Cx) (pins:List (Addr × Obj)) (σ:List (Option V)) (H:Hp) (s:Shared):Prop where
  ok:X.Ok
  os:s.os=X.s₀.os
  bare:AllBare s.gens
  base:Un X.fs X.ex X.H₀ H X.s₀.heap s.heap
  loc:∃ m,s.heap.Ns X.env.locals m/\∀ (i:Nat) (x:Str) (v:V),X.N[i]?=some x->σ[i]?=some (some v)->Vis X.env.scope x->∃ u,RelV v u/\Look X.env s.heap m x u
  cell:∀ x c,X.env.cells.lookup x=some c->∃ v,s.heap.IsCell c v
  free:H X.env.locals=none
  freeC:∀ x c,X.env.cells.lookup x=some c->H c=none
  pin:∀ p∈X.pn++pins,s.heap.get? p.1=some p.2/\H p.1=none/\p.1≠X.env.locals/\p.1∉X.fs/\∀ v,p.2.data≠.cell v
  hok:HOk X.prog X.w H s.heap
  len:σ.length=X.N.length
section
variable {X:Cx}{pins:List (Addr × Obj)}{σ:List (Option V)}{H H':Hp}{s:Shared}{h':Heap}
theorem Cx.Ok.nofr (ok:X.Ok) {b:Addr}{o:Obj}(e:X.base.get? b=some o):b∉X.fs:=λhb=>by
  have:=(ok.funs.mem hb).1;rw[e]at this;cases this
theorem Inv.bs (I:Inv X pins σ H s):∀ b o,X.base.get? b=some o->s.heap.get? b=some o/\H b=none:=λb o e =>
  ⟨I.base.keep b o (I.ok.bs b o e).1 (I.ok.bs b o e).2 (I.ok.nofr e) (I.ok.noex b o e),I.base.free b o (I.ok.bs b o e).1 (I.ok.bs b o e).2 (I.ok.noex b o e)⟩
theorem Inv.bk (I:Inv X pins σ H s):∀ b o,X.base.get? b=some o->s.heap.get? b=some o:=λb o e=>(I.bs b o e).1
theorem Inv.mod (I:Inv X pins σ H s):Mod X.K X.mg X.base:=I.ok.mod
theorem Inv.kIn (I:Inv X pins σ H s):X.K.In s.heap:=I.ok.mod.kin.keeps I.bk
theorem Inv.lt (I:Inv X pins σ H s):X.env.locals<s.heap.objs.size:=let ⟨_,hn,_⟩:=I.loc;hn.lt
theorem Inv.sz (I:Inv X pins σ H s):X.s₀.heap.objs.size<=s.heap.objs.size:=JX I.ok.above (Nat.le_of_lt I.lt)
theorem Inv.nofs (I:Inv X pins σ H s) {a:Addr}(h:s.heap.objs.size<=a):a∉X.fs:=λhb=>by
  obtain⟨_,o,b,_⟩:=I.ok.funs.mem hb;exact absurd (JF (Jc b) (JX I.sz h)) (Yz _)
theorem Inv.cne (I:Inv X pins σ H s):∀ x c,X.env.cells.lookup x=some c->c≠X.env.locals:=λx c e z=>by
  obtain⟨v,o,d,hd⟩:=I.cell x c e;obtain⟨m,⟨o',es,ep,a,b,_⟩,_⟩:=I.loc;rw[z,a]at d;cases d;rw[b]at hd;cases hd
theorem Inv.funs (I:Inv X pins σ H s):s.heap.FunFrames X.base X.outer:=by
  have all:∀ (l:List Env),(∀ b∈frs l,b∈X.fs)->X.s₀.heap.FunFrames X.base l->s.heap.FunFrames X.base l:=by
    intro l
    induction l with
    | nil=>intro _ _;trivial
    | cons env r ih =>
      intro d h;obtain⟨i,⟨L,o,a,hn,g,hd⟩,f⟩:=h;have c:L∈X.fs:=d L (by unfold frs;rw[List.filterMap_cons,a];exact JC);obtain⟨sl,e⟩:=I.base.slot L o g (I.ok.frf L c) c λz=>I.ok.exfs L z c;exact⟨i,⟨L,_,a,hn,e,hd⟩,ih (λb hb=>d b (by unfold frs;rw[List.filterMap_cons,a];exact JB _ hb)) f⟩
  exact all X.outer (λ_ hb=>hb) I.ok.funs
theorem Inv.stack (I:Inv X pins σ H s):s.heap.FunFrames X.base X.stack:=by
  rcases I.ok.stk with e|⟨e,a⟩
  · rw[e];exact I.funs
  · rw[e]
    obtain⟨m,hn,_⟩:=I.loc;refine .cons (by rw[I.ok.kind];decide) a hn ?_ I.funs;exact Heap.get?_none_of_le (JX I.ok.bsz I.ok.above)
theorem Inv.stkSub (I:Inv X pins σ H s):∀ b∈frs X.stack,b∈X.env.locals::X.fs:=λb hb=>by
  rcases I.ok.stk with e|⟨e,a⟩
  · rw[e]at hb;exact JB _ hb
  · rw[e]at hb
    unfold frs at hb;rw[List.filterMap_cons,a]at hb;exact hb
theorem Inv.stkFree (I:Inv X pins σ H s):∀ b∈frs X.stack,H b=none:=λb hb=>by
  rcases Jh.mp (I.stkSub b hb) with e|hb
  · rw[e];exact I.free
  · obtain⟨_,o,a,_⟩:=I.ok.funs.mem hb
    exact I.base.free b o a (I.ok.frf b hb) λz=>I.ok.exfs b z hb
theorem Inv.step {g':Array GenState}{t':Nat}{d':Drawn}{ch:List Addr}(I:Inv X pins σ H s)
    (g:∀ b∈ch,(b∈X.ex\/X.s₀.heap.objs.size<=b)/\b≠X.env.locals/\(∀ x c,X.env.cells.lookup x=some c->c≠b)/\∀ p∈X.pn++pins,p.1≠b)
    (keep:∀ b o,b≠X.env.locals->b∉X.fs->b∉ch->s.heap.get? b=some o->H b=none->h'.get? b=some o)
    (slot:∀ b o,b≠X.env.locals->b∈X.fs->b∉ch->s.heap.get? b=some o->H b=none->∃ sl,h'.get? b=some { o with slots:=sl }) (free:∀ b o,b∉ch->s.heap.get? b=some o->H b=none->H' b=none)
    (there:∀ b o,b∉ch->s.heap.get? b=some o->∃ o',h'.get? b=some o')
    (tups:∀ b xs,H b=some (.tup xs)->H' b=some (.tup xs)) (frzs:∀ b o u,H b=some (.frz o u)->H' b=some (.frz o u)) (tbls:∀ b ps,H b=some (.tbl ps)->∃ more,H' b=some (.tbl (ps++more)))
    (ns:∀ m,s.heap.Ns X.env.locals m->h'.Ns X.env.locals m) (hok:HOk X.prog X.w H' h') (G:AllBare g') :
    Inv X pins σ H' { s with heap:=h',gens:=g',drawn:=d',toks:=t' }:=by
  have w:∀ b o,X.s₀.heap.get? b=some o->b≠X.env.locals:=λb o e=>JA (JF (Jc e) I.ok.above)
  have j:∀ b o,X.s₀.heap.get? b=some o->b∉X.ex->b∉ch:=λb o e a hb=>by
    rcases (g b hb).1 with z|z
    · exact a z
    · exact absurd (JF (Jc e) z) (Yz _)
  have cellK:∀ x c,X.env.cells.lookup x=some c->∀ v,s.heap.IsCell c v->h'.IsCell c v:=λx c e v ⟨o,t,hd⟩=>by
    have f:c∉ch:=λz=>(g c z).2.2.1 x c e rfl;by_cases C:c∈X.fs
    · obtain⟨sl,q⟩:=slot c o (I.cne x c e) C f t (I.freeC x c e)
      exact⟨_,q,hd⟩
    · exact⟨o,keep c o (I.cne x c e) C f t (I.freeC x c e),hd⟩
  refine⟨I.ok,I.os,G,⟨λb o e n hb a=>?_,λb o e n hb a=>?_,λb o e n a=>?_,λb o e a=>?_,λb xs e=>tups b xs (I.base.tups b xs e),λb o xs e=>frzs b o xs (I.base.frzs b o xs e),λb ps e=>?_⟩,?_,λx c e=>?_,?_,λx c e=>?_,λp B=>?_,hok,I.len⟩
  · exact keep b o (w b o e) hb (j b o e a) (I.base.keep b o e n hb a) (I.base.free b o e n a)
  · obtain⟨sl,h⟩:=I.base.slot b o e n hb a
    obtain⟨y,e2⟩:=slot b _ (w b o e) hb (j b o e a) h (I.base.free b o e n a);exact⟨y,e2⟩
  · obtain⟨o',h⟩:=I.base.there b o e a
    exact free b o' (j b o e a) h (I.base.free b o e n a)
  · obtain⟨o',h⟩:=I.base.there b o e a
    exact there b o' (j b o e a) h
  · obtain⟨E,h⟩:=I.base.tbls b ps e
    obtain⟨D,e2⟩:=tbls b _ h;exact⟨E++D,by rw[e2,Array.append_assoc]⟩
  · obtain⟨m,hn,F⟩:=I.loc
    refine⟨m,ns m hn,λi x v h e2 J=>?_⟩;obtain⟨u,r,l⟩:=F i x v h e2 J;refine⟨u,r,?_⟩;rcases l with l|⟨k,c,e,z⟩
    · exact .inl l
    · exact .inr ⟨k,c,e,cellK x c e _ z⟩
  · obtain⟨v,z⟩:=I.cell x c e
    exact⟨v,cellK x c e v z⟩
  · obtain⟨m,⟨o,_,_,t,_⟩,_⟩:=I.loc
    exact free _ o (λz=>(g _ z).2.1 rfl) t I.free
  · obtain⟨v,o,t,hd⟩:=I.cell x c e
    exact free c o (λz=>(g c z).2.2.1 x c e rfl) t (I.freeC x c e)
  · obtain⟨e,n,ne,A,d⟩:=I.pin p B
    have f:p.1∉ch:=λz=>(g p.1 z).2.2.2 p B rfl;exact⟨keep p.1 p.2 ne A f e n,free p.1 p.2 f e n,ne,A,d⟩
theorem Inv.un {t':Nat}(I:Inv X pins σ H s) (u:Un X.fs [] H H' s.heap h') (hok:HOk X.prog X.w H' h'):Inv X pins σ H' { s with heap:=h',toks:=t' }:=by
  obtain⟨m,⟨o,es,ep,f,r⟩,_⟩:=id I.loc;obtain⟨sl,h⟩:=u.any f I.free (by simp)
  exact I.step (g':=s.gens) (d':=s.drawn) (ch:=[]) (λ_ z=>nomatch z) (λb o _ hb _ e n=>u.keep b o e n hb (by simp)) (λb o _ hb _ e n=>u.slot b o e n hb (by simp)) (λb o _ e n=>u.free b o e n (by simp)) (λb o _ e=>u.there b o e (by simp)) u.tups u.frzs u.tbls (λi hm=>by
    obtain⟨o',c,d,a,g⟩:=hm;rw[f]at a;cases a
    exact⟨_,c,d,h,g⟩) hok I.bare
theorem Inv.call {g':Array GenState}{t':Nat}{d':Drawn}{ch:List Addr}(I:Inv X pins σ H s) (u:Un (frs X.stack) ch H H' s.heap h') (hok:HOk X.prog X.w H' h') (l:AllBare g')
    (f:∀ b∈ch,(b∈X.ex\/X.s₀.heap.objs.size<=b)/\b≠X.env.locals/\(∀ x c,X.env.cells.lookup x=some c->c≠b)/\∀ p∈X.pn++pins,p.1≠b) :
    Inv X pins σ H' { s with heap:=h',gens:=g',drawn:=d',toks:=t' }:=by
  obtain⟨m,⟨o,es,ep,j,r⟩,_⟩:=id I.loc;obtain⟨sl,g⟩:=u.any j I.free λz=>(f _ z).2.1 rfl
  exact I.step (ch:=ch) f (λb o g hb a e n=>u.keep b o e n (λz=>(Jh.mp (I.stkSub b z)).elim g hb) a) (λb o _ _ a e n=>u.any e n a) (λb o a e n=>u.free b o e n a) (λb o a e=>u.there b o e a) u.tups u.frzs u.tbls (λq hm=>by
    obtain⟨o',h,i,d,k⟩:=hm;rw[j]at d;cases d
    exact⟨_,h,i,g,k⟩) hok l
theorem Inv.turned {t':Nat}{it:Addr}(I:Inv X pins σ H s) (k:∀ b o,b≠it->s.heap.get? b=some o->h'.get? b=some o) (hn:H it=none) (f:it≠X.env.locals)
    (h1:it∈X.ex\/X.s₀.heap.objs.size<=it) (i:∀ x c,X.env.cells.lookup x=some c->c≠it) (h:∀ p∈X.pn++pins,p.1≠it):Inv X pins σ H { s with heap:=h',toks:=t' }:=by
  have d:∀ b u,H b=some u->b≠it:=λb u e z=>by rw[z,hn]at e;cases e
  refine I.step (g':=s.gens) (d':=s.drawn) (ch:=[it]) (λb hb=>?_) (λb o _ _ a e _=>k b o (λz=>a (by simp[z])) e) (λb o _ _ a e _=>⟨o.slots,k b o (λz=>a (by simp[z])) e⟩) (λ_ _ _ _ n=>n)
    (λb o a e=>⟨o,k b o (λz=>a (by simp[z])) e⟩) (λ_ _ e=>e) (λ_ _ _ e=>e) (λb ps e=>⟨#[],by rw[e];simp⟩) (λm hm=>?_) (λb u e=>?_) I.bare
  · have e:b=it:=by simpa using hb
    subst e;exact⟨h1,f,i,h⟩
  · obtain⟨o,es,ep,g,r⟩:=hm
    exact⟨o,es,ep,k _ o (Ne.symm f) g,r⟩
  · refine(I.hok b u e).stay (λc v a q=>k c v ?_ q) (λ_ q=>q) λ_ _ q=>q
    rcases a with z|z
    · rw[z];exact d b u e
    · exact d c _ z
theorem Inv.tok (I:Inv X pins σ H s) (t:Nat):Inv X pins σ H { s with toks:=t }:=I.un (h':=s.heap) (t':=t) Un.refl I.hok
theorem Inv.kept {t':Nat}(I:Inv X pins σ H s) (k:∀ b u,s.heap.get? b=some u->h'.get? b=some u):Inv X pins σ H { s with heap:=h',toks:=t' }:=I.un (Un.kept k) (I.hok.kept k)
theorem Inv.laid {a:Addr}{o:HO}{t':Nat}(I:Inv X pins σ H s) (k:∀ b u,s.heap.get? b=some u->h'.get? b=some u) (c:s.heap.objs.size<=a) (new:ObjOk X.prog X.w (upd H a o) h' a o) :
    Inv X pins σ (upd H a o) { s with heap:=h',toks:=t' }:=I.un (Un.laid k c (I.hok.fresh c)) (I.hok.laid k c new)
theorem Inv.write {x e:Addr}{o:HO}{t':Nat}(I:Inv X pins σ H s) (c:Mut (H x)) (d:e=x\/H e=some (.own x)) (k:∀ b u,b≠e->s.heap.get? b=some u->h'.get? b=some u) (a:∃ u,h'.get? e=some u)
    (new:ObjOk X.prog X.w (upd H x o) h' x o):Inv X pins σ (upd H x o) { s with heap:=h',toks:=t' }:=I.un (Un.write c d k a) (I.hok.write c d k a new)
theorem Inv.pins_of {a:List (Addr × Obj)}(I:Inv X pins σ H s) (h:∀ p∈a,s.heap.get? p.1=some p.2/\H p.1=none/\p.1≠X.env.locals/\p.1∉X.fs/\∀ v,p.2.data≠.cell v):Inv X a σ H s :=
  ⟨I.ok,I.os,I.bare,I.base,I.loc,I.cell,I.free,I.freeC,λp b=>(Jx.mp b).elim (λz=>I.pin p (Ym _ z)) (h p),I.hok,I.len⟩
theorem zgJ {N:List Str}(c:N.Nodup) {i j:Nat}{x:Str}(a:N[i]?=some x) (b:N[j]?=some x):i=j:=by
  obtain⟨h1,d⟩:=J9.mp a;obtain⟨e,e2⟩:=J9.mp b;exact(List.getElem_inj c).mp (d.trans e2.symm)
theorem zh6 {M:Model}{A:Around}{E:Value->Shared->Prop}{i:Nat}{x:Str}{v:V}{u:Value}{Q:Unit->Shared->Prop}(I:Inv X pins σ H s) (hN:X.N.Nodup) (hi:X.N[i]?=some x) (t:Loc X.env.scope x) (r:RelV v u)
    (h:∀ s',Inv X pins (σ.set i (some v)) H s'->(∃ a,Heap.SameBut a s.heap s'.heap/\(a=X.env.locals\/X.env.cells.lookup x=some a))->Q () s') (hf:X.fn x=true\/X.env.scope.names.lookup x=some .local:=by first|exact .inl rfl|exact .inr rfl|assumption):wpAny M A (storeName X.env x u) Q E s:=by
  obtain⟨m,hn,hl⟩:=id I.loc;have N:(X.env.scope.kind == .class || (X.env.scope.kind == .module && X.env.locals != X.env.globals))=false:=by rw[I.ok.kind];rfl
  have C:i<σ.length:=by rw[I.len];exact(J9.mp hi).1
  have cne:=I.cne
  have tracked:∀ {a:Addr}{h':Heap},(∃ o,s.heap.get? a=some o/\H a=none)->Heap.SameBut a s.heap h'->HOk X.prog X.w H h':=λ{a h'} ha f b ob e=>by
    obtain⟨_,_,w⟩:=ha;refine(I.hok b ob e).stay (λc O l q=>(f.2 c ?_).trans q) (λ_ q=>q) λ_ _ q=>q;rintro rfl;rcases l with rfl|l
    · rw[w]at e;cases e
    · rw[w]at l;cases l
  rcases t with B|B
  · refine wpAny_storeName_local B hn (λh' aa f=>?_) N
    obtain⟨oL,_,_,Z,_⟩:=id hn;refine h _ ⟨I.ok,I.os,I.bare,⟨λb o e n hb t=>?_,λb o e n hb t=>?_,I.base.free,λb o e t=>?_,I.base.tups,I.base.frzs,I.base.tbls⟩,⟨_,aa,λj y R g e2 Y=>?_⟩,λy c e=>?_,I.free,I.freeC,λp W=>?_,tracked ⟨oL,Z,I.free⟩ f,by simpa using I.len⟩ ⟨_,f,.inl rfl⟩
    · exact(f.2 b (JA (JF (Jc e) I.ok.above))).trans (I.base.keep b o e n hb t)
    · obtain⟨sl,g⟩:=I.base.slot b o e n hb t
      exact⟨sl,(f.2 b (JA (JF (Jc e) I.ok.above))).trans g⟩
    · obtain⟨o',g⟩:=I.base.there b o e t
      exact⟨o',(f.2 b (JA (JF (Jc e) I.ok.above))).trans g⟩
    · by_cases D:j=i
      · subst D
        rw[hi]at g;cases g;rw[List.getElem?_set_self C]at e2;cases e2;exact⟨u,r,.inl ⟨B,by simp⟩⟩
      · rw[List.getElem?_set_ne (Ne.symm D)]at e2
        obtain⟨S,T,q⟩:=hl j y R g e2 Y;refine⟨S,T,?_⟩;rcases q with ⟨k,e⟩|⟨k,c,e,z⟩
        · refine .inl ⟨k,?_⟩
          have:y≠x:=λe=>D (zgJ hN g (e ▸ hi));simp[this,e]
        · exact .inr ⟨k,c,e,z.sameBut f (cne y c e)⟩
    · obtain⟨O,z⟩:=I.cell y c e
      exact⟨O,z.sameBut f (cne y c e)⟩
    · obtain⟨e,n,ne,U,d⟩:=I.pin p W
      exact⟨(f.2 p.1 ne).trans e,n,ne,U,d⟩
  · have F:X.fn x=true:=by
      rcases hf with z|z
      · exact z
      · rw[z]at B;cases B
    obtain⟨c,l⟩:=I.ok.has x (.inl B);obtain⟨O,z⟩:=I.cell x c l;refine wpAny_storeName_cell I.ok.kind B l z (λh' K f=>?_);obtain⟨oc,G,L⟩:=id z;refine h { s with heap:=h' } ⟨I.ok,I.os,I.bare,⟨λb o e n hb t=>?_,λb o e n hb t=>?_,I.base.free,λb o e t=>?_,I.base.tups,I.base.frzs,I.base.tbls⟩,⟨m,hn.sameBut f (Ne.symm (cne x c l)),λj y R g e2 Y=>?_⟩,λy P e=>?_,I.free,I.freeC,λp W=>?_,tracked ⟨oc,G,I.freeC x c l⟩ f,by simpa using I.len⟩ ⟨c,f,.inr l⟩
    · exact(f.2 b (JA (JF (Jc e) (I.ok.cab x c F l)))).trans (I.base.keep b o e n hb t)
    · obtain⟨sl,g⟩:=I.base.slot b o e n hb t
      exact⟨sl,(f.2 b (JA (JF (Jc e) (I.ok.cab x c F l)))).trans g⟩
    · obtain⟨o',g⟩:=I.base.there b o e t
      exact⟨o',(f.2 b (JA (JF (Jc e) (I.ok.cab x c F l)))).trans g⟩
    · by_cases D:j=i
      · subst D
        rw[hi]at g;cases g;rw[List.getElem?_set_self C]at e2;cases e2;exact⟨u,r,.inr ⟨.inl B,c,l,K⟩⟩
      · rw[List.getElem?_set_ne (Ne.symm D)]at e2
        obtain⟨S,T,q⟩:=hl j y R g e2 Y;refine⟨S,T,?_⟩;rcases q with q|⟨k,P,e,z'⟩
        · exact .inl q
        · refine .inr ⟨k,P,e,z'.sameBut f ?_⟩
          rintro rfl;exact D (zgJ hN g (I.ok.inj _ _ _ e l ▸ hi))
    · by_cases J:P=c
      · subst J;exact⟨_,K⟩
      · obtain⟨w2,z2⟩:=I.cell y P e
        exact⟨w2,z2.sameBut f J⟩
    · obtain⟨e,n,ne,U,d⟩:=I.pin p W
      refine⟨(f.2 p.1 ?_).trans e,n,ne,U,d⟩;intro q;rw[q,G]at e;have q':oc=p.2:=Js e;exact d O (by rw[<- q'];exact L)
theorem zd2 {M:Model}{A:Around}{E:Value->Shared->Prop}{i:Nat}{x:Str}{v:V}{u:Value}{Q:Unit->Shared->Prop}(I:Inv X pins σ H s) (c:X.N.Nodup) (hi:X.N[i]?=some x) (a:Loc X.env.scope x) (r:RelV v u)
    (h:∀ s',Inv X pins (σ.set i (some v)) H s'->Q () s') (b:X.fn x=true\/X.env.scope.names.lookup x=some .local:=by first|exact .inl rfl|exact .inr rfl|assumption):wpAny M A (storeName X.env x u) Q E s :=
  zh6 I c hi a r (λs' d _=>h s' d) b
theorem Inv.call' {s':Shared}{ch:List Addr}(I:Inv X pins σ H s) (d:s'.os=s.os) (u:Un (frs X.stack) ch H H' s.heap s'.heap) (hok:HOk X.prog X.w H' s'.heap) (f:AllBare s'.gens)
    (a:∀ b∈ch,(b∈X.ex\/X.s₀.heap.objs.size<=b)/\b≠X.env.locals/\(∀ x c,X.env.cells.lookup x=some c->c≠b)/\∀ p∈X.pn++pins,p.1≠b):Inv X pins σ H' s':=by
  obtain⟨h',g',d',t',o'⟩:=s';have e:o'=s.os:=d;subst e;exact I.call (g':=g') (t':=t') (d':=d') u hok f a
end
abbrev XK:=Value->Option Addr->Hp->Prop
abbrev St:=List (Option V)
abbrev VK:=V->Hp->Prop
abbrev TE:=St->Hp->VK->Prop
abbrev TT:=St->Hp->(Bool->Hp->Prop)->Prop
abbrev TA:=St->Hp->(List V->Hp->Prop)->Prop
structure Ends where
  nx:St->Hp->Prop
  rt:VK
  bk:St->Hp->Prop:=λ_ _=>False
  ct:St->Hp->Prop:=λ_ _=>False
abbrev TS:=Ends->St->Hp->Prop
def EP (X:Cx) (pins:List (Addr × Obj)) (σ:St) (Q:VK) (u:Value) (s':Shared):Prop:=∃ v H',Inv X pins σ H' s'/\RelV v u/\Q v H'
def TP (X:Cx) (pins:List (Addr × Obj)) (σ:St) (Q:Bool->Hp->Prop) (b:Bool) (s':Shared):Prop:=∃ H',Inv X pins σ H' s'/\Q b H'
def AP (X:Cx) (pins:List (Addr × Obj)) (σ:St) (Q:List V->Hp->Prop) (us:List Value) (s':Shared):Prop:=∃ vs H',Inv X pins σ H' s'/\Vals vs us/\Q vs H'
def SP (X:Cx) (pins:List (Addr × Obj)) (D:Ends) (f:Flow) (s':Shared):Prop :=
  match f with
  | .next=>∃ a H',Inv X pins a H' s'/\D.nx a H'
  | .brk=>∃ a H',Inv X pins a H' s'/\D.bk a H'
  | .cont=>∃ a H',Inv X pins a H' s'/\D.ct a H'
  | .ret u=>∃ v a H',Inv X pins a H' s'/\RelV v u/\D.rt v H'
def PE (X:Cx) (e:Expr) (t:TE):Prop :=
  ∀ (pins:List (Addr × Obj)) (s:Shared) (σ:St) (H:Hp) (Q:VK),Inv X pins σ H s->t σ H Q->wpAny (model X.prog X.w) X.A (eval e X.env) (EP X pins σ Q) X.xe s
def PT (X:Cx) (e:Expr) (t:TT):Prop :=
  ∀ (pins:List (Addr × Obj)) (s:Shared) (σ:St) (H:Hp) (Q:Bool->Hp->Prop),Inv X pins σ H s->t σ H Q->wpAny (model X.prog X.w) X.A (isTrue e X.env (eval e X.env)) (TP X pins σ Q) X.xe s
def PW (X:Cx) (e:Expr) (t:TT):Prop :=
  ∀ (whole:Sem Value) (pins:List (Addr × Obj)) (s:Shared) (σ:St) (H:Hp) (Q:Bool->Hp->Prop),Inv X pins σ H s->t σ H Q->wpAny (model X.prog X.w) X.A (isTrue e X.env whole) (TP X pins σ Q) X.xe s
theorem PW.pt {X:Cx}{e:Expr}{t:TT}(h:PW X e t):PT X e t:=h _
def PA (X:Cx) (es:List Expr) (t:TA):Prop :=
  ∀ (pos:Pos) (pins:List (Addr × Obj)) (s:Shared) (σ:St) (H:Hp) (Q:List V->Hp->Prop),Inv X pins σ H s->t σ H Q->wpAny (model X.prog X.w) X.A (spliced (backTo pos (starEach es X.env))) (AP X pins σ Q) X.xe s
def PS (X:Cx) (st:Stmt) (t:TS):Prop :=
  ∀ (pins:List (Addr × Obj)) (s:Shared) (σ:St) (H:Hp) (D:Ends),Inv X pins σ H s->t D σ H->wpAny (model X.prog X.w) X.A (exec st X.env) (SP X pins D) X.xe s
def PSs (X:Cx) (st:List Stmt) (t:TS):Prop :=
  ∀ (pins:List (Addr × Obj)) (s:Shared) (σ:St) (H:Hp) (D:Ends),Inv X pins σ H s->t D σ H->wpAny (model X.prog X.w) X.A (execs st X.env) (SP X pins D) X.xe s
theorem thn {α:Type}{t:Sem α}{Q b:α->Shared->Prop}{M:Model}{A:Around}{E:Value->Shared->Prop}{s:Shared}(h:wpAny M A t Q E s) (c:∀ a s,Q a s->b a s):wpAny M A t b E s:=JU h c λ_ _ x=>x
section
variable {X:Cx}
def tVar (i:Nat):TE:=λσ H Q=>∃ v,σ[i]?=some (some v)/\Q v H
def tC (v:V):TE:=λ_ H Q=>Q v H
theorem znw {i:Nat}{x:Str}{pos:Pos}(k:X.N[i]?=some x) (g:Vis X.env.scope x) (hd:(x == ("__debug__":Str))=false:=by decide) (d:(x == ("__classdict__":Str))=false:=by decide):PE X (.Name x pos) (tVar i):=by
  intro pins s σ H Q I h;obtain⟨v,e,h⟩:=h;obtain⟨m,hn,j⟩:=I.loc;obtain⟨u,r,l⟩:=j i x v k e g;have fin:EP X pins σ Q u s:=⟨v,H,I,r,h⟩;rcases l with ⟨b,hm⟩|⟨b,c,f,a⟩
  · exact wpAny_Name (wpAny_loadName_local I.ok.kind b hn hm fin) hd
  · rcases b with b|b
    · exact wpAny_Name (wpAny_loadName_cell I.ok.kind b f a fin) hd
    · exact wpAny_Name (wpAny_loadName_free I.ok.kind b f a fin d) hd
theorem zah {i j pos}:PE X (.Constant (.int i) j pos) (tC (.int i)):=λ_ _ _ H _ I h=>wpAny_Constant_int ⟨.int i,H,I.tok _,⟨_,rfl⟩,h⟩
theorem zem {b j pos}:PE X (.Constant (.bool b) j pos) (tC (.bl b)):=λ_ _ _ H _ I h=>Constant_bool ⟨.bl b,H,I,rfl,h⟩
theorem ziD {j pos}:PE X (.Constant .none j pos) (tC .non):=λ_ _ _ H _ I h=>Constant_none ⟨.non,H,I,rfl,h⟩
theorem zbN {x j pos}:PE X (.Constant (.str x) j pos) (tC (.str x)):=λ_ _ _ H _ I h=>Calls.Constant_str ⟨.str x,H,I.tok _,⟨_,rfl⟩,h⟩
def Gl (X:Cx) (x:Str):Prop:=X.env.kindOf x=some .globalImplicit
theorem zf3 {E:Value->Shared->Prop}{pins:List (Addr × Obj)}{s:Shared}{σ:St}{H:Hp}{x:Str}{u:Value}{pos:Pos}{Q:Value->Shared->Prop}(I:Inv X pins σ H s) (a:Gl X x) (hm:X.mg x=some u) (h:Q u s)
    (hd:(x == ("__debug__":Str))=false:=by decide):wpAny (model X.prog X.w) X.A (eval (.Name x pos) X.env) Q E s :=
  Calls.Name_function_global I.ok.kind a (Calls.loadGlobal_global (by rw[I.ok.glob];exact I.mod.glob.keeps I.bk) hm h) hd
theorem zbA {E:Value->Shared->Prop}{pins:List (Addr × Obj)}{s:Shared}{σ:St}{H:Hp}{x:Str}{u:Value}{pos:Pos}{Q:Value->Shared->Prop}(I:Inv X pins σ H s) (b:Gl X x) (hm:X.mg x=none) (a:bootBuiltins x=some u) (h:Q u s)
    (hn:x≠"__name__":=by decide) (hd:(x == ("__debug__":Str))=false:=by decide):wpAny (model X.prog X.w) X.A (eval (.Name x pos) X.env) Q E s:=by
  obtain⟨mb,h1,c⟩:=I.mod.blt;exact Calls.Name_function_global I.ok.kind b (Calls.loadGlobal_builtin (by rw[I.ok.glob];exact I.mod.glob.keeps I.bk) hm (by rw[I.ok.blt];exact h1.keeps I.bk) ((c x hn).trans a) h) hd
theorem zmo {x:Str}{v:V}{u:Value}{pos:Pos}(a:Gl X x) (hm:X.mg x=some u) (r:RelV v u) (hd:(x == ("__debug__":Str))=false:=by decide):PE X (.Name x pos) (tC v) :=
  λ_ _ _ H _ I h=>zf3 I a hm ⟨v,H,I,r,h⟩ hd
theorem zmp {x:Str}{v:V}{u:Value}{pos:Pos}(b:Gl X x) (hm:X.mg x=none) (a:bootBuiltins x=some u) (r:RelV v u) (hn:x≠"__name__":=by decide) (hd:(x == ("__debug__":Str))=false:=by decide):PE X (.Name x pos) (tC v) :=
  λ_ _ _ H _ I h=>zbA I b hm a ⟨v,H,I,r,h⟩ hn hd
variable {a b:Expr}{ta tb:TE}{pos:Pos}
def tB (t:TE):TT:=λσ H Q=>t σ H λx H1=>∃ c,x=.bl c/\Q c H1
theorem zeS {e:Expr}{t:TE}(h:PE X e t) (f:∀ whole,isTrue e X.env whole=(do let v <- whole;standAt e.pos;holding [v] (truthy v)):=by intro _;rfl):PT X e (tB t):=by
  intro pins s σ H Q I c;refine isTrue_plain (thn (h pins s σ H _ I c) λv s1 ⟨x,H1,g,a,b⟩=>?_) (f _);obtain⟨d,rfl,q⟩:=b;cases a;exact ZV ⟨H1,g,q⟩
variable {tA tB':TT}{rest:List Expr}
def tAnd (t u:TT):TT:=λσ H Q=>t σ H λc H1=>if c=true then u σ H1 Q else Q false H1
def tOr (t u:TT):TT:=λσ H Q=>t σ H λc H1=>if c=true then Q true H1 else u σ H1 Q
def tNot (t:TT):TT:=λσ H Q=>t σ H λc H1=>Q (!c) H1
theorem zmf (ha:PT X a tA):PW X (.BoolOp .And [a] pos) tA:=by
  intro b pins s σ H Q I h;refine isTrue_and (thn (ha pins s σ H Q I h) λc s1 e=>?_)
  cases c with
  | true=>exact isTrue_and_nil e
  | false=>exact e
theorem zlu (ha:PT X a tA):PW X (.BoolOp .Or [a] pos) tA:=by
  intro b pins s σ H Q I h;refine isTrue_or (thn (ha pins s σ H Q I h) λc s1 e=>?_)
  cases c with
  | false=>exact isTrue_or_nil e
  | true=>exact e
theorem znu (ha:PT X a tA) (hb:PW X (.BoolOp .And (b::rest) pos) tB'):PW X (.BoolOp .And (a::b::rest) pos) (tAnd tA tB'):=by
  intro f pins s σ H Q I h;refine isTrue_and (thn (ha pins s σ H _ I h) λc s1 ⟨H1,e,d⟩=>?_)
  cases c with
  | true=>exact hb f pins s1 σ H1 Q e d
  | false=>exact⟨H1,e,d⟩
theorem zme (ha:PT X a tA) (hb:PW X (.BoolOp .Or (b::rest) pos) tB'):PW X (.BoolOp .Or (a::b::rest) pos) (tOr tA tB'):=by
  intro f pins s σ H Q I h;refine isTrue_or (thn (ha pins s σ H _ I h) λc s1 ⟨H1,e,d⟩=>?_)
  cases c with
  | true=>exact⟨H1,e,d⟩
  | false=>exact hb f pins s1 σ H1 Q e d
theorem zgB (ha:PT X a tA):PT X (.UnaryOp .Not a pos) (tNot tA):=by
  intro pins s σ H Q I h;exact isTrue_not (ha pins s σ H (λc H1=>Q (!c) H1) I h)
def tIf (t:TT) (ta tb:TE):TE:=λσ H Q=>t σ H λc H1=>if c=true then ta σ H1 Q else tb σ H1 Q
theorem zgD {c:Expr}(g:PT X c tA) (ha:PE X a ta) (hb:PE X b tb):PE X (.IfExp c a b pos) (tIf tA ta tb):=by
  intro pins s σ H Q I h;refine wpAny_IfExp (thn (g pins s σ H _ I h) λd s1 ⟨H1,f,e⟩=>?_)
  cases d with
  | true=>exact ha pins s1 σ H1 Q f e
  | false=>exact hb pins s1 σ H1 Q f e
end
def SqL (K:PySem.W.Frag) (H:Hp) (a:Addr) (xs:List V):Prop :=
  Rd H a (.lst xs) \/
    ∃ (o:Obj) (its:Array Value) (n:Nat),K.lookup a=some o/\o.cls=.type "list"/\o.dict=none/\o.data=.seq its n/\its.size<=sizeLine/\Vals xs its.toList
def SqT (K:PySem.W.Frag) (H:Hp) (a:Addr) (xs:List V):Prop :=
  Rd H a (.tup xs) \/
    ∃ (o:Obj) (its:Array Value) (n:Nat),K.lookup a=some o/\o.cls=.type "tuple"/\o.data=.seq its n/\its.size<=sizeLine/\Vals xs its.toList
def absV:Value->Option V
  | .none=>some .non
  | .bool b=>some (.bl b)
  | .int i _=>some (.int i)
  | .str x _=>some (.str x)
  | .bytes b _=>some (.byt b)
  | .float b _=>some (.flt b)
  | .ref a=>some (.ref a)
  | .type n=>some (.ty n)
  | _=>none
theorem RelV.abs {x:V}{u:Value}(r:RelV x u):absV u=some x:=by
  cases x with
  | non=>cases r;rfl
  | bl _=>cases r;rfl
  | int _=>obtain⟨t,rfl⟩:=r;rfl
  | str _=>obtain⟨t,rfl⟩:=r;rfl
  | byt _=>obtain⟨t,rfl⟩:=r;rfl
  | flt _=>obtain⟨t,rfl⟩:=r;rfl
  | ref _=>cases r;rfl
  | ty _=>cases r;rfl
theorem RelV.inj {x y:V}{u:Value}(r:RelV x u) (q:RelV y u):x=y:=Js (r.abs.symm.trans q.abs)
theorem Vals.inj:∀ {xs ys:List V}{us:List Value},Vals xs us->Vals ys us->xs=ys
  | _,_,_,.nil,.nil=>rfl
  | _,_,_,.cons r t,.cons a t'=>by rw[r.inj a,Vals.inj t t']
section
variable {X:Cx}{pins:List (Addr × Obj)}{σ:St}{H:Hp}{s:Shared}{a:Addr}{xs ys:List V}
theorem SqL.of {K:PySem.W.Frag}(h:H a=some (.lst xs)):SqL K H a xs:=.inl (.inl h)
theorem SqT.of {K:PySem.W.Frag}(h:H a=some (.tup xs)):SqT K H a xs:=.inl (.inl h)
theorem Inv.list (I:Inv X pins σ H s) (h:SqL X.K H a xs):∃ its:List Value,Vals xs its/\PlainL s.heap a its.toArray/\xs.length<=sizeLine:=by
  rcases h with h|⟨o,its,n,c,d,hd,b,hz,r⟩
  · obtain⟨z,its,n,r,e⟩:=h.ok I.hok
    exact⟨its,r,⟨_,n,e,rfl,rfl,rfl⟩,z⟩
  · refine⟨its.toList,r,⟨o,n,I.kIn a o c,d,hd,by simpa using b⟩,?_⟩
    have e:=r.length;simp only[Ju]at e;omega
theorem Inv.tuple (I:Inv X pins σ H s) (h:SqT X.K H a xs):∃ its:List Value,Vals xs its/\IsTup s.heap a its.toArray/\xs.length<=sizeLine:=by
  rcases h with h|⟨o,its,n,c,d,b,hz,r⟩
  · obtain⟨z,its,r,p⟩:=h.ok I.hok
    exact⟨its,r,p.tup,z⟩
  · refine⟨its.toList,r,⟨o,I.kIn a o c,d,n,by simpa using b⟩,?_⟩
    have e:=r.length;simp only[Ju]at e;omega
theorem Inv.list_inj (I:Inv X pins σ H s) (h:SqL X.K H a xs) (h':SqL X.K H a ys):xs=ys:=by
  obtain⟨its,r,⟨o,n,e,_,_,d⟩,_⟩:=I.list h;obtain⟨its',c,⟨o',g,b,_,_,d'⟩,_⟩:=I.list h';rw[e]at b;cases b;rw[d]at d';injection d' with f _;have:its=its':=by simpa using JR Array.toList f
  subst this;exact r.inj c
theorem Inv.tuple_inj (I:Inv X pins σ H s) (h:SqT X.K H a xs) (h':SqT X.K H a ys):xs=ys:=by
  obtain⟨its,r,⟨o,e,_,n,d⟩,_⟩:=I.tuple h;obtain⟨its',c,⟨o',b,_,g,d'⟩,_⟩:=I.tuple h';rw[e]at b;cases b;rw[d]at d';injection d' with f _;have:its=its':=by simpa using JR Array.toList f
  subst this;exact r.inj c
end
abbrev Cx.wish (X:Cx) (E:Value->Shared->Prop):Cx:={ X with xe:=E }
abbrev Cx.nox (X:Cx):Cx:=X.wish λ_ _=>False
theorem Cx.Ok.wish {X:Cx}(ok:X.Ok) (E:Value->Shared->Prop):(X.wish E).Ok :=
  ⟨ok.mod,ok.kind,ok.glob,ok.blt,ok.above,ok.inj,ok.has,ok.cab,ok.hd,ok.frames,ok.stk,ok.exf,ok.bs,ok.bsz,ok.noex,ok.exfs,ok.funs,ok.frf⟩
theorem Cx.Ok.unwish {X:Cx}{E:Value->Shared->Prop}(ok:(X.wish E).Ok):X.Ok :=
  ⟨ok.mod,ok.kind,ok.glob,ok.blt,ok.above,ok.inj,ok.has,ok.cab,ok.hd,ok.frames,ok.stk,ok.exf,ok.bs,ok.bsz,ok.noex,ok.exfs,ok.funs,ok.frf⟩
section
variable {X:Cx}{pins:List (Addr × Obj)}{σ:St}{H:Hp}{s:Shared}{E:Value->Shared->Prop}
theorem Inv.wish (I:Inv X pins σ H s) (E:Value->Shared->Prop):Inv (X.wish E) pins σ H s:=⟨I.ok.wish E,I.os,I.bare,I.base,I.loc,I.cell,I.free,I.freeC,I.pin,I.hok,I.len⟩
theorem Inv.unwish (I:Inv (X.wish E) pins σ H s):Inv X pins σ H s:=⟨I.ok.unwish,I.os,I.bare,I.base,I.loc,I.cell,I.free,I.freeC,I.pin,I.hok,I.len⟩
theorem SP.unwish {D:Ends}{f:Flow}{s':Shared}(h:SP (X.wish E) pins D f s'):SP X pins D f s':=by
  cases f with
  | next=>obtain⟨a,H',I,q⟩:=h;exact⟨a,H',I.unwish,q⟩
  | brk=>obtain⟨a,H',I,q⟩:=h;exact⟨a,H',I.unwish,q⟩
  | cont=>obtain⟨a,H',I,q⟩:=h;exact⟨a,H',I.unwish,q⟩
  | ret u=>obtain⟨v,a,H',I,r,q⟩:=h;exact⟨v,a,H',I.unwish,r,q⟩
theorem PSs.nox {st:List Stmt}{t:TS}(h:PSs X.nox st t):PSs X st t:=λpins s σ H D I a =>
  JU (h pins s σ H D (I.wish _) a) (λ_ _ q=>q.unwish) λ_ _ z=>False.elim z
end
section
variable {X:Cx}{st:Stmt}{rest:List Stmt}{t u:TS}{e:Expr}{te:TE}{pos:Pos}
def zoc:TS:=λD σ H=>D.nx σ H
def tSeq (t u:TS):TS:=λD σ H=>t { D with nx:=u D } σ H
theorem zaI:PSs X [] zoc:=λ_ _ σ H _ I h=>wpAny_execs_nil ⟨σ,H,I,h⟩
theorem zaf (h1:PS X st t) (b:PSs X rest u):PSs X (st::rest) (tSeq t u):=by
  intro pins s σ H D I h;refine wpAny_execs_cons (thn (h1 pins s σ H { D with nx:=u D } I h) λf s1 q=>?_)
  cases f with
  | next =>
    obtain⟨a,H',c,q⟩:=q
    exact b pins s1 a H' D c q
  | ret v=>exact q
  | brk=>exact q
  | cont=>exact q
theorem zai (h1:PS X st t):PSs X [st] t:=by
  intro pins s σ H D I h;refine wpAny_execs_cons (thn (h1 pins s σ H D I h) λf s1 q=>?_)
  cases f with
  | next=>exact wpAny_execs_nil q
  | ret v=>exact q
  | brk=>exact q
  | cont=>exact q
def zoi:TS:=λD σ H=>D.ct σ H
theorem zfR:PS X (.Continue pos) zoi:=λ_ _ σ H _ I h=>wpAny_Continue ⟨σ,H,I,h⟩
theorem Inv.quiet {pins:List (Addr × Obj)}{σ:St}{H:Hp}{s:Shared}(I:Inv X pins σ H s):interactive X.env=false:=by simp[interactive,I.ok.kind]
def zoh (te:TE):TS:=λD σ H=>te σ H λ_ H1=>D.nx σ H1
theorem zbg (c:PE X e te) (b:swapsWith e none pos.line X.env=pure false:=by rfl):PS X (.Expr e pos) (zoh te):=by
  intro pins s σ H D I h;exact wpAny_Expr_any (thn (c pins s σ H _ I h) λv s1 ⟨x,H1,d,f,a⟩=>⟨σ,H1,d,a⟩) I.quiet b
def tRet (te:TE):TS:=λD σ H=>te σ H D.rt
theorem zap (c:PE X e te):PS X (.Return (some e) pos) (tRet te):=by
  intro pins s σ H D I h;exact wpAny_Return_some (thn (c pins s σ H _ I h) λv s1 ⟨x,H1,d,a,b⟩=>⟨x,σ,H1,d,a,b⟩)
def tIfS (c:TT) (t u:TS):TS:=λD σ H=>c σ H λb H1=>if b=true then t D σ H1 else u D σ H1
theorem zbw {c:Expr}{a b:List Stmt}{e:TT}(i:PT X c e) (ha:PSs X a t) (hb:PSs X b u):PS X (.If c a b pos) (tIfS e t u):=by
  intro pins s σ H D I h;refine wpAny_If (thn (i pins s σ H _ I h) λd s1 ⟨H1,g,f⟩=>?_)
  cases d with
  | true=>exact ha pins s1 σ H1 D g f
  | false=>exact hb pins s1 σ H1 D g f
end
abbrev TG:=V->St->Hp->(St->Hp->Prop)->Prop
abbrev TGs:=List V->St->Hp->(St->Hp->Prop)->Prop
def PG (X:Cx) (target:Expr) (t:TG):Prop :=
  ∀ (pins:List (Addr × Obj)) (s:Shared) (σ:St) (H:Hp) (v:V) (u:Value) (Q:St->Hp->Prop),Inv X pins σ H s->RelV v u->t v σ H Q ->
    wpAny (model X.prog X.w) X.A (assign target X.env u) (λ_ s'=>∃ a H',Inv X pins a H' s'/\Q a H') X.xe s
def PGs (X:Cx) (ts:List Expr) (t:TGs):Prop :=
  ∀ (pins:List (Addr × Obj)) (s:Shared) (σ:St) (H:Hp) (vs:List V) (us:List Value) (Q:St->Hp->Prop),Inv X pins σ H s->Vals vs us->t vs σ H Q ->
    wpAny (model X.prog X.w) X.A (assignInOrder ((assignEach ts X.env).map (·.2)) us) (λ_ s'=>∃ a H',Inv X pins a H' s'/\Q a H') X.xe s
abbrev TSet:=V->V->V->Hp->(Hp->Prop)->Prop
def PSet (X:Cx) (t:TSet):Prop :=
  ∀ (pins:List (Addr × Obj)) (s:Shared) (σ:St) (H:Hp) (o i v:V) (a b u:Value) (Q:Hp->Prop),Inv X pins σ H s->RelV o a->RelV i b->RelV v u->t o i v H Q ->
    wpAny (model X.prog X.w) X.A (setItem a b u) (λ_ s'=>∃ H',Inv X pins σ H' s'/\Q H') X.xe s
abbrev TIp:=V->V->Hp->VK->Prop
def PIp (X:Cx) (op:Operator) (t:TIp):Prop :=
  ∀ (pins:List (Addr × Obj)) (s:Shared) (σ:St) (H:Hp) (x y:V) (v u:Value) (Q:VK),Inv X pins σ H s->RelV x v->RelV y u->t x y H Q ->
    wpAny (model X.prog X.w) X.A (inplaceOp op v u) (EP X pins σ Q) X.xe s
section
variable {X:Cx}{pos:Pos}
def zjv (i:Nat):TG:=λv σ H Q=>Q (σ.set i (some v)) H
theorem zak {i:Nat}{x:Str}(c:X.N.Nodup) (hi:X.N[i]?=some x) (a:Loc X.env.scope x) (b:X.fn x=true\/X.env.scope.names.lookup x=some .local:=by first|exact .inl rfl|exact .inr rfl|assumption):PG X (.Name x pos) (zjv i):=by
  intro pins s σ H v u Q I r h;exact wpAny_assign_Name (zd2 I c hi a r (λs' d=>⟨_,H,d,h⟩) b)
def gNil:TGs:=λvs σ H Q=>vs=[]/\Q σ H
def zm3 (t:TG) (u:TGs):TGs:=λvs σ H Q=>∃ v r,vs=v::r/\t v σ H λa H'=>u r a H' Q
theorem zaF:PGs X [] gNil:=by
  intro pins s σ H vs us Q I r h;obtain⟨e,h⟩:=h;subst e;cases r;exact assignInOrder_nil ⟨σ,H,I,h⟩
theorem zam {e:Expr}{es:List Expr}{t:TG}{u:TGs}(h1:PG X e t) (f:PGs X es u)
    (d:(assignEach (e::es) X.env).map (·.2)=assign e X.env::(assignEach es X.env).map (·.2):=by rfl):PGs X (e::es) (zm3 t u):=by
  intro pins s σ H vs us Q I r h;obtain⟨v,j,g,h⟩:=h;subst g
  cases r with
  | cons r b =>
    rw[d];refine assignInOrder_cons (thn (h1 pins s σ H _ _ _ I r h) λ_ s1 ⟨a,H1,i,c⟩=>?_);exact f pins s1 a H1 _ _ Q i b c
def gTup (K:PySem.W.Frag) (n:Nat) (t:TGs):TG:=λv σ H Q=>∃ a xs,v=.ref a/\SqT K H a xs/\xs.length=n/\t xs σ H Q
theorem zaV {es:List Expr}{k:Nat}{t:TGs}{n:Nat}(m:X.calm=true) (h:PGs X es t)
    (hn:(assignEach es X.env).length=n:=by rfl) (d:(assignEach es X.env).findIdx? (·.1)=none:=by rfl):PG X (.Tuple es k pos) (gTup X.K n t):=by
  intro pins s σ H v u Q I r c;obtain⟨a,xs,p,j,l,c⟩:=c;subst p;cases r;obtain⟨its,f,i,hz⟩:=I.tuple j;refine assign_Tuple_tuple (I.ok.hd m) i (by simp[hn,<- l,f.length]) d λh' g=>?_;have q:Inv X pins σ H { s with heap:=h' }:=I.kept (t':=s.toks) λb o e=>g b o (JA (Jc e)) e;exact h pins _ σ H xs _ Q q (by simpa using f) c
def gSub (to a:TE) (t:TSet):TG:=λv σ H Q=>to σ H λo H1=>a σ H1 λi c=>t o i v c λb=>Q σ b
theorem zch {o i:Expr}{to c:TE}{t:TSet}(l:PE X o to) (hi:PE X i c) (k:PSet X t)
    (ha:∀ v,assign (.Subscript o i pos) X.env v=(do
      let a <- holding [v] (eval o X.env)
      let b <- holding [v,a] (eval i X.env)
      standAt pos
      holding [v,a,b] (setItem a b v)
      release [v,a,b] []):=by intro _;rfl):PG X (.Subscript o i pos) (gSub to c t):=by
  intro pins s σ H v u Q I r h;rw[ha];refine J0 (Y1 (thn (l pins s σ H _ I h) λa s1 ⟨x,H1,p,e,j⟩=>?_));refine J0 (Y1 (thn (hi pins s1 σ H1 _ p j) λb s2 ⟨y,w,n,d,g⟩=>?_));refine J0 (W9 (J0 (Y1 (thn (k pins s2 σ w x y v a b u _ n e d r g) λ_ z ⟨q,m,f⟩=>?_))));exact wpAny_release ⟨σ,q,m,f⟩
def tAsg (te:TE) (g:TG):TS:=λD σ H=>te σ H λx H1=>g x σ H1 D.nx
theorem zaT {tg e:Expr}{te:TE}{g:TG}(i:PE X e te) (f:PG X tg g) (d:swapsWithSole [tg] e pos.line X.env=pure false:=by rfl) (c:swappedStores [tg] e X.env=pure none:=by rfl)
    (h1:(assignEach [tg] X.env).map (·.2)=[assign tg X.env]:=by rfl):PS X (.Assign [tg] e pos) (tAsg te g):=by
  intro pins s σ H D I h;refine wpAny_Assign_stores (thn (i pins s σ H _ I h) λv s1 ⟨x,H1,j,a,b⟩=>?_) d c;rw[h1];exact thn (f pins s1 σ H1 x v _ j a b) λ_ s2 q=>q
theorem zaq {i:Nat}{x:Str}{e:Expr}{te:TE}{pos':Pos}(j:X.N.Nodup) (hi:X.N[i]?=some x) (c:Loc X.env.scope x) (g:PE X e te) (d:swapsWith e (some (.Name x pos')) pos.line X.env=pure false:=by rfl) (f:X.fn x=true\/X.env.scope.names.lookup x=some .local:=by first|exact .inl rfl|exact .inr rfl|assumption) :
    PS X (.Assign [.Name x pos'] e pos) (tAsg te (zjv i)):=by
  intro pins s σ H D I h;refine wpAny_Assign_Name (thn (g pins s σ H _ I h) λv s1 ⟨y,H1,l,a,b⟩=>?_) d;exact zd2 l j hi c a (λs2 k=>⟨_,H1,k,b⟩) f
def tAug (i:Nat) (te:TE) (a:TIp):TS:=λD σ H=>∃ x,σ[i]?=some (some x)/\te σ H λy H1=>a x y H1 λz b=>D.nx (σ.set i (some z)) b
theorem znv {i:Nat}{x:Str}{e:Expr}{te:TE}{op:Operator}{n:TIp}{pos':Pos}(G:X.N.Nodup) (hi:X.N[i]?=some x) (g:Loc X.env.scope x) (E:PE X e te) (A:PIp X op n) (C:X.fn x=true\/X.env.scope.names.lookup x=some .local:=by first|exact .inl rfl|exact .inr rfl|assumption) :
    PS X (.AugAssign (.Name x pos') op e pos) (tAug i te n):=by
  intro pins s σ H D I h;obtain⟨v,J,h⟩:=h;obtain⟨m,hn,B⟩:=I.loc;have j:Vis X.env.scope x:=by rcases g with k|k;exact .inl k;exact .inr (.inl k)
  obtain⟨u,r,l⟩:=B i x v hi J j;refine wpAny_AugAssign_Name ?_
  have go:wpAny (model X.prog X.w) X.A (eval e X.env) (λw f=>wpAny (model X.prog X.w) X.A (inplaceOp op u w) (λr d=>wpAny (model X.prog X.w) X.A (storeName X.env x r) (λ_=>SP X pins D .next) X.xe d) X.xe f) X.xe s:=by
    refine thn (E pins s σ H _ I h) λw s1 ⟨y,H1,M,p,t⟩=>?_;refine thn (A pins s1 σ H1 v y u w _ M r p t) λz s2 ⟨O,N,L,o,q⟩=>?_;exact zd2 L G hi g o (λP K=>⟨_,N,K,q⟩) C
  rcases l with ⟨a,hm⟩|⟨a,c,F,b⟩
  · exact wpAny_loadName_local I.ok.kind a hn hm go
  · rcases a with a|a
    · exact wpAny_loadName_cell I.ok.kind a F b go
    · rcases g with k|k
      · have:X.env.scope.names.lookup x=some .free:=a
        rw[k]at this;cases this
      · have:X.env.scope.names.lookup x=some .free:=a
        rw[k]at this;cases this
end
section
variable {X:Cx}{pos:Pos}
def znj (c:TT) (tb:TS):TS:=λD σ H=>∃ W:Nat->St->Hp->Prop,(∃ m,W m σ H)/\∀ m σ H,W m σ H ->
  c σ H λb H1=>if b=true then ∃ N:St->Hp->Prop,(∀ a H',N a H'->∃ d,d<m/\W d a H')/\tb { D with nx:=N,ct:=N,bk:=D.nx } σ H1 else D.nx σ H1
theorem zgC {c:Expr}{body:List Stmt}{p:TT}{tb:TS}(q:PassesOwn (model X.prog X.w) X.A X.env X.xe) (z:PT X c p) (hb:PSs X body tb):PS X (.While c body [] pos) (znj p tb):=by
  intro pins s σ H D I h;obtain⟨W,⟨y,x⟩,turn⟩:=h;refine wpAny_While (codeAny_whileLoop (λn s'=>∃ g H',Inv X pins g H' s'/\W n g H') ?_ y ⟨σ,H,I,x⟩);rintro n s1 ⟨d,H1,A,w⟩;refine ZP q (thn (z pins s1 d H1 _ A (turn n d H1 w)) λb s2 ⟨u,t,j⟩=>?_)
  cases b with
  | true =>
    obtain⟨N,r,j⟩:=j;rw[Jf rfl];refine ZP q (thn (hb pins s2 d u _ t j) λf B i=>?_)
    cases f with
    | next =>
      obtain⟨a,e,o,l⟩:=i;obtain⟨m,hm,k⟩:=r a e l
      exact⟨m,hm,a,e,o,k⟩
    | cont =>
      obtain⟨a,e,o,l⟩:=i;obtain⟨m,hm,k⟩:=r a e l
      exact⟨m,hm,a,e,o,k⟩
    | brk=>exact i
    | ret v=>exact i
  | false =>
    rw[Ja Jq];exact wpAny_execs_nil ⟨d,u,t,j⟩
end
structure It where
  go:Nat->Hp->Prop
  yld:Nat->Hp->V->Hp->Prop
  stop:Nat->Hp->Prop
def FpOk (X:Cx) (pins:List (Addr × Obj)) (H:Hp) (b:Addr):Prop :=
  H b=none/\b≠X.env.locals/\b∉X.fs/\(b∈X.ex\/X.s₀.heap.objs.size<=b)/\(∀ x c,X.env.cells.lookup x=some c->c≠b)/\∀ p∈X.pn++pins,p.1≠b
theorem Inv.fpOk {X:Cx}{pins:List (Addr × Obj)}{σ:St}{H H':Hp}{s:Shared}{b:Addr}(I:Inv X pins σ H s) (hb:s.heap.objs.size<=b) (hn:H' b=none):FpOk X pins H' b:=by
  refine⟨hn,JT (JF I.lt hb),I.nofs hb,.inr (JX I.sz hb),λx c e z=>?_,λp a z=>?_⟩
  · obtain⟨v,q⟩:=I.cell x c e
    exact absurd (JF q.lt (by rw[z];exact hb)) (Yz _)
  · exact absurd (JF (Jc (I.pin p a).1) (by rw[z];exact hb)) (Yz _)
structure Turn (P:Program) (w:World) (K:PySem.W.Frag) (tg:Expr) (J:It) (fp:List Addr) (it:Addr) (tn:Nat->Heap->Prop):Prop where
  mem:it∈fp
  obj:∀ i h,tn i h->∀ b∈fp,∃ o,h.get? b=some o/\∀ v,o.data≠.cell v
  keep:∀ i h h',tn i h->(∀ b∈fp,∀ o,h.get? b=some o->h'.get? b=some o)->tn i h'
  item:∀ (X:Cx),X.prog=P->X.w=w->X.K=K->X.calm=true->∀ (i:Nat) (pins:List (Addr × Obj)) (s:Shared) (σ:St) (H:Hp) (E:Value->Shared->Prop),Inv X pins σ H s->(∀ b∈fp,FpOk X pins H b)->tn i s.heap->J.go i H ->
    wpAny (model P w) X.A (pyNext (.ref it)) (λr s1=>∃ u,r=some u /\
      wpAny (model P w) X.A (letOwnedTupleGo tg (.ref it) u) (λ_ s2=>∃ x H',Inv X pins σ H' s2/\RelV x u/\J.yld i H x H'/\tn (i+1) s2.heap/\∀ b∈fp,H' b=none) E s1) E s
  done:∀ (X:Cx),X.prog=P->X.w=w->X.K=K->X.calm=true->∀ (i:Nat) (pins:List (Addr × Obj)) (s:Shared) (σ:St) (H:Hp) (E:Value->Shared->Prop),Inv X pins σ H s->(∀ b∈fp,FpOk X pins H b)->tn i s.heap->J.stop i H ->
    wpAny (model P w) X.A (pyNext (.ref it)) (λr s1=>r=none/\Inv X pins σ H s1) E s
  self:∀ (A:Around) (i:Nat) (s:Shared) (Q:Value->Shared->Prop) (E:Value->Shared->Prop),tn i s.heap->Q (.ref it) s->wpAny (model P w) A (pyIter (.ref it)) Q E s
abbrev TI:=St->Hp->(It->Hp->Prop)->Prop
def PIE (X:Cx) (pins:List (Addr × Obj)) (σ:St) (tg:Expr) (R:It->Hp->Prop) (a:Value) (s2:Shared):Prop :=
  ∃ (it:Addr) (fp:List Addr) (tn:Nat->Heap->Prop) (J:It) (H':Hp),a=.ref it/\Inv X pins σ H' s2/\Turn X.prog X.w X.K tg J fp it tn/\tn 0 s2.heap/\(∀ b∈fp,FpOk X pins H' b)/\R J H'
def PI (X:Cx) (tg iter:Expr) (a:TI):Prop :=
  ∀ (pins:List (Addr × Obj)) (s:Shared) (σ:St) (H:Hp) (R:It->Hp->Prop),Inv X pins σ H s->a σ H R ->
    wpAny (model X.prog X.w) X.A (eval iter X.env) (λv s1=>wpAny (model X.prog X.w) X.A (pyIter v) (PIE X pins σ tg R) X.xe s1) X.xe s
theorem zm1 {M:Model}{A:Around}{E:Value->Shared->Prop}{s:Shared}{tg:Expr}{it:Addr}{u:Value}{o:Obj}{n:String}{vs:Array Value}{Q:Unit->Shared->Prop}(b:s.heap.get? it=some o) (c:o.cls=.type n) (hd:o.data=.fields vs)
    (hn:["enumerate","zip","dict_itemiterator","dict_reverseitemiterator","odict_iterator","itertools.zip_longest","itertools.pairwise"].contains n=false) (a:Q () s):wpAny M A (letOwnedTupleGo tg (.ref it) u) Q E s:=by
  unfold letOwnedTupleGo
  cases tg<;>first
    | exact J7 a
    | (cases u<;>first
        | exact J7 a
        | (refine J0 (wpAny_load b ?_)
           rw[c,hd];show wpAny M A (if (["enumerate","zip","dict_itemiterator","dict_reverseitemiterator","odict_iterator","itertools.zip_longest","itertools.pairwise"].contains n && vs[0]? == some (rawInt _))=true then _ else _) Q E s;rw[Ja (by intro h;rw[hn,Bool.false_and]at h;cases h)]
           exact J7 a))
def Itl (K:PySem.W.Frag) (a:Addr):It :=
  ⟨λi H=>∃ xs x,SqL K H a xs/\xs[i]?=some x,λi H x H'=>H'=H/\∀ xs,SqL K H a xs->xs[i]?=some x,λi H=>∃ xs,SqL K H a xs/\xs.length<=i⟩
def Itt (K:PySem.W.Frag) (a:Addr):It :=
  ⟨λi H=>∃ xs x,SqT K H a xs/\xs[i]?=some x,λi H x H'=>H'=H/\∀ xs,SqT K H a xs->xs[i]?=some x,λi H=>∃ xs,SqT K H a xs/\xs.length<=i⟩
def Itr (lo:Int) (n:Nat):It:=⟨λi _=>i<n,λi H x H'=>H'=H/\x=.int (lo+i),λi _=>n<=i⟩
theorem zh0 {P:Program}{w:World}{K:PySem.W.Frag}{tg:Expr}(a it:Addr):Turn P w K tg (Itl K a) [it] it (λi h=>h.IsListIter it a i) where
  mem:=by simp
  obj:=λi h st b hb=>by
    have e:b=it:=by simpa using hb
    subst e;obtain⟨o,e,c,d⟩:=st;exact⟨o,e,λv z=>by rw[d]at z;cases z⟩
  keep:=λi h h' st k=>st.at λo e=>k it (by simp) o e
  item:=by
    intro X q m r C i pins s σ H E I g st n;subst q m r;obtain⟨xs,x,f,l⟩:=n;obtain⟨its,j,p,hz⟩:=I.list f;obtain⟨u,G,D⟩:=j.get l;obtain⟨B,f1,f2,A,y,t⟩:=g it (by simp);refine wpAny_pyNext_list_item st p.isList (x:=u) (by simpa using G) λh' st' sb=>?_;have L:Inv X pins σ H { s with heap:=h' }:=I.turned (t':=s.toks) (λb o hb e=>(sb.2 b hb).trans e) B f1 A y t;obtain⟨o,e,c,d⟩:=id st';exact⟨u,rfl,zm1 (s:={ s with heap:=h' }) e c d (by decide) ⟨x,H,L,D,⟨rfl,λys F=>by rw[I.list_inj F f];exact l⟩,st',λb hb=>(g b hb).1⟩⟩
  done:=by
    intro X q m r C i pins s σ H E I g st n;subst q m r;obtain⟨xs,f,l⟩:=n;obtain⟨its,j,p,hz⟩:=I.list f;obtain⟨B,f1,f2,A,y,t⟩:=g it (by simp);have M:=j.length;exact wpAny_pyNext_list_end (I.ok.hd C) st p.isList (by simp;omega) λh' J=>⟨rfl,I.turned (t':=s.toks) (λb o hb e=>J b o hb e) B f1 A y t⟩
  self:=λ_ _ _ _ _ st h=>wpAny_pyIter_listiter st h
theorem zg9 {P:Program}{w:World}{K:PySem.W.Frag}{tg:Expr}(a it:Addr):Turn P w K tg (Itt K a) [it] it (λi h=>h.IsTupleIter it a i) where
  mem:=by simp
  obj:=λi h st b hb=>by
    have e:b=it:=by simpa using hb
    subst e;obtain⟨o,e,c,d⟩:=st;exact⟨o,e,λv z=>by rw[d]at z;cases z⟩
  keep:=λi h h' st k=>st.at λo e=>k it (by simp) o e
  item:=by
    intro X q m r C i pins s σ H E I g st n;subst q m r;obtain⟨xs,x,f,l⟩:=n;obtain⟨its,j,p,hz⟩:=I.tuple f;obtain⟨u,G,D⟩:=j.get l;obtain⟨B,f1,f2,A,y,t⟩:=g it (by simp);refine wpAny_pyNext_tuple_item st (show s.heap.IsTuple a its.toArray from p) (x:=u) (by simpa using G) λh' st' sb=>?_;have L:Inv X pins σ H { s with heap:=h' }:=I.turned (t':=s.toks) (λb o hb e=>(sb.2 b hb).trans e) B f1 A y t;obtain⟨o,e,c,d⟩:=id st';exact⟨u,rfl,zm1 (s:={ s with heap:=h' }) e c d (by decide) ⟨x,H,L,D,⟨rfl,λys F=>by rw[I.tuple_inj F f];exact l⟩,st',λb hb=>(g b hb).1⟩⟩
  done:=by
    intro X q m r C i pins s σ H E I g st n;subst q m r;obtain⟨xs,f,l⟩:=n;obtain⟨its,j,p,hz⟩:=I.tuple f;obtain⟨B,f1,f2,A,y,t⟩:=g it (by simp);have M:=j.length;exact wpAny_pyNext_tuple_end (I.ok.hd C) st (show s.heap.IsTuple a its.toArray from p) (by simp;omega) λh' J=>⟨rfl,I.turned (t':=s.toks) (λb o hb e=>J b o hb e) B f1 A y t⟩
  self:=λ_ _ _ _ _ st h=>wpAny_pyIter_tupleiter st h
theorem zha {P:Program}{w:World}{K:PySem.W.Frag}{tg:Expr}(it:Addr) (lo:Int) (n:Nat):Turn P w K tg (Itr lo n) [it] it (λi h=>IsRangeIter h it (lo+(i:Nat)*1) ((n:Int)-(i:Nat)) 1) where
  mem:=by simp
  obj:=λi h st b hb=>by
    have e:b=it:=by simpa using hb
    subst e
    exact⟨_,st,λv z=>by
      have r:Data.fields _=Data.cell v:=z
      cases r⟩
  keep:=λi h h' st k=>k it (by simp) _ st
  item:=by
    intro X g c j f i pins s σ H E I a st d;subst g c j;obtain⟨q,f1,f2,p,m,l⟩:=a it (by simp);have W:=Walks.range (prog:=X.prog) (w:=X.w) (I.ok.hd f) it lo 1 n;refine W.item i s _ _ d st λv h' tk x st' u=>?_;obtain⟨t,rfl⟩:=x;have A:Inv X pins σ H { s with heap:=h',toks:=tk }:=I.turned (λb o hb e=>u b o (by simpa using hb) e) q f1 p m l;refine⟨_,rfl,zm1 (s:={ s with heap:=h',toks:=tk }) (n:="range_iterator") st' rfl rfl (by decide) ⟨.int (lo+i),H,A,⟨t,?_⟩,⟨rfl,rfl⟩,st',λb hb=>(a b hb).1⟩⟩;rw[Int.mul_one]
  done:=by
    intro X g c j f i pins s σ H E I a st d;subst g c j;obtain⟨q,f1,f2,p,m,l⟩:=a it (by simp);exact wpAny_pyNext_range_end (I.ok.hd f) st (by have:n<=i:=d;omega) λh' y=>⟨rfl,I.turned (t':=s.toks) (λb o hb e=>y b o hb e) q f1 p m l⟩
  self:=λ_ _ _ _ _ st h=>wpAny_pyIter_rangeiter st h
section
variable {X:Cx}{tg:Expr}
def znW (K:PySem.W.Frag) (tl:TE):TI:=λσ H R=>tl σ H λx H1=>∃ a,x=.ref a/\(∃ xs,SqL K H1 a xs)/\R (Itl K a) H1
def iTup (K:PySem.W.Frag) (tl:TE):TI:=λσ H R=>tl σ H λx H1=>∃ a,x=.ref a/\(∃ xs,SqT K H1 a xs)/\R (Itt K a) H1
theorem zek {l:Expr}{tl:TE}(i:PE X l tl):PI X tg l (znW X.K tl):=by
  intro pins s σ H R I h;refine thn (i pins s σ H _ I h) λv s1 ⟨x,H1,c,d,f⟩=>?_;obtain⟨a,e,⟨xs,g⟩,q⟩:=f;subst e;cases d;obtain⟨its,j,p,hz⟩:=c.list g;refine wpAny_pyIter_list p.isList ?_;refine⟨s1.heap.objs.size,[s1.heap.objs.size],_,_,H1,rfl,c.kept (t':=s1.toks) λb o e=>J8 _ e,zh0 a _,⟨_,Jt _ rfl,rfl,rfl⟩,λb hb=>?_,q⟩;have e:b=s1.heap.objs.size:=by simpa using hb
  subst e;exact c.fpOk (Jg _) (c.hok.fresh (Jg _))
theorem zdb {l:Expr}{tl:TE}(i:PE X l tl):PI X tg l (iTup X.K tl):=by
  intro pins s σ H R I h;refine thn (i pins s σ H _ I h) λv s1 ⟨x,H1,c,d,f⟩=>?_;obtain⟨a,e,⟨xs,g⟩,q⟩:=f;subst e;cases d;obtain⟨its,j,p,hz⟩:=c.tuple g;refine wpAny_pyIter_tuple (show s1.heap.IsTuple a its.toArray from p) ?_;refine⟨s1.heap.objs.size,[s1.heap.objs.size],_,_,H1,rfl,c.kept (t':=s1.toks) λb o e=>J8 _ e,zg9 a _,⟨_,Jt _ rfl,rfl,rfl⟩,λb hb=>?_,q⟩;have e:b=s1.heap.objs.size:=by simpa using hb
  subst e;exact c.fpOk (Jg _) (c.hok.fresh (Jg _))
theorem zgz {pins:List (Addr × Obj)}{σ:St}{H:Hp}{s:Shared}{R:It->Hp->Prop}{E:Value->Shared->Prop}{lo hi:Int}{t u v:Tok}{tk:Nat}(I:Inv X pins σ H s) (h1:-(2 ^ 62)<=lo) (f:lo<2 ^ 62) (d:-(2 ^ 62)<=hi) (c:hi<2 ^ 62)
    (q:R (Itr lo (hi-lo).toNat) H):wpAny (model X.prog X.w) X.A (pyIter (.ref s.heap.objs.size)) (PIE X pins σ tg R) E { s with heap:=s.heap.push { cls:=.type "range",data:=.fields #[.int lo t,.int hi u,.int 1 v] },toks:=tk }:=by
  refine wpAny_pyIter_range (IsRange.new ..) (small_one h1 f d c) ?_;have a:Inv X pins σ H { s with heap:=s.heap.push { cls:=.type "range",data:=.fields #[.int lo t,.int hi u,.int 1 v] },toks:=tk }:=I.kept λb o e=>J8 _ e
  refine⟨(s.heap.push { cls:=.type "range",data:=.fields #[.int lo t,.int hi u,.int 1 v] }).objs.size,[(s.heap.push { cls:=.type "range",data:=.fields #[.int lo t,.int hi u,.int 1 v] }).objs.size],_,_,H,rfl,
    a.kept (t':=tk) λb o e=>J8 _ e,zha _ lo (hi-lo).toNat,?_,λb hb=>?_,q⟩
  · have g:lo+((0:Nat):Int)*1=lo:=by simp
    have e2:(((hi-lo).toNat:Nat):Int)-((0:Nat):Int)=Builtin.Range.rangeSize lo hi 1:=by rw[rangeSize_one];split<;>omega
    show IsRangeIter _ _ (lo+((0:Nat):Int)*1) ((((hi-lo).toNat:Nat):Int)-((0:Nat):Int)) 1;rw[g,e2];exact Jt _ rfl
  · have e:b=(s.heap.push { cls:=.type "range",data:=.fields #[.int lo t,.int hi u,.int 1 v] }).objs.size:=by simpa using hb
    subst e;exact a.fpOk (Jg _) (a.hok.fresh (Jg _))
def zoA (ta:TA):TI:=λσ H R=>ta σ H λvs H1=>∃ j:Int,vs=[.int j]/\-(2 ^ 62)<=j/\j<2 ^ 62/\R (Itr 0 j.toNat) H1
def zoz (ta:TA):TI:=λσ H R=>ta σ H λvs H1=>∃ i j:Int,vs=[.int i,.int j]/\(-(2 ^ 62)<=i/\i<2 ^ 62/\-(2 ^ 62)<=j/\j<2 ^ 62)/\R (Itr i (j-i).toNat) H1
theorem zaU {a:Expr}{ta:TA}{p pos:Pos}(i:Gl X "range") (hm:X.mg "range" = none) (ha:PA X [a] ta) (g:starEach [a] X.env=[(false,eval a X.env)]:=by rfl):PI X tg (.Call (.Name "range" p) [a] [] pos) (zoA ta):=by
  intro pins s σ H R I h;refine Call_ (zbA I i hm boot_range (Yk (thn (ha pos pins s σ H _ I h) λus s1 ⟨vs,H1,k,d,b⟩=>?_) g rfl));obtain⟨j,e,b,f,q⟩:=b;subst e
  cases d with
  | cons r c =>
    cases c;obtain⟨t,rfl⟩:=r;exact call_range_1 (zgz k (by omega) (by omega) b f (by simpa using q))
theorem ziB {a b:Expr}{ta:TA}{p pos:Pos}(u:Gl X "range") (hm:X.mg "range" = none) (ha:PA X [a,b] ta) (o:starEach [a,b] X.env=[(false,eval a X.env),(false,eval b X.env)]:=by rfl) (c:starEach [b] X.env=[(false,eval b X.env)]:=by rfl) :
    PI X tg (.Call (.Name "range" p) [a,b] [] pos) (zoz ta):=by
  intro pins s σ H R I h;refine Call_ (zbA I u hm boot_range (Yk (thn (ha pos pins s σ H _ I h) λus s1 ⟨vs,H1,v,g,f⟩=>?_) (by rw[o,c]) (by rw[c];rfl)));obtain⟨i,j,e,⟨f,n,m,l⟩,q⟩:=f;subst e
  cases g with
  | cons r d =>
    cases d with
    | cons k d =>
      cases d;obtain⟨t,rfl⟩:=r;obtain⟨t',rfl⟩:=k;exact call_range_2 (zgz v f n m l q)
def tFor (d:TI) (g:TG) (tb:TS):TS:=λD σ H=>d σ H λJ H1=>∃ W:Nat->Nat->St->Hp->Prop,(∃ m,W 0 m σ H1)/\∀ i m σ H,W i m σ H ->
  (J.stop i H/\D.nx σ H)\/(J.go i H/\∃ N:St->Hp->Prop,(∀ a H',N a H'->∃ c,c<m/\W (i+1) c a H')/\∀ x H',J.yld i H x H'->g x σ H' λb e=>tb { D with nx:=N,ct:=N,bk:=D.nx } b e)
def zcK (fp:List Addr) (h:Heap):List (Addr × Obj):=fp.filterMap λb=>(h.get? b).map λo=>(b,o)
theorem za0 {fp:List Addr}{h:Heap}{b:Addr}{o:Obj}(hb:b∈fp) (e:h.get? b=some o):(b,o)∈zcK fp h:=List.mem_filterMap.mpr ⟨b,hb,by rw[e];rfl⟩
theorem ziS {fp:List Addr}{h:Heap}{p:Addr × Obj}(a:p∈zcK fp h):p.1∈fp/\h.get? p.1=some p.2:=by
  obtain⟨b,hb,e⟩:=List.mem_filterMap.mp a
  cases q:h.get? b with
  | none=>rw[q]at e;cases e
  | some o =>
    rw[q]at e;have c:(b,o)=p:=Js e;subst c;exact⟨hb,q⟩
theorem Inv.pinned {pins:List (Addr × Obj)}{σ:St}{H:Hp}{s:Shared}{fp:List Addr}(I:Inv X pins σ H s) (g:∀ b∈fp,FpOk X pins H b) (f:∀ b∈fp,∃ o,s.heap.get? b=some o/\∀ v,o.data≠.cell v):Inv X (pins++zcK fp s.heap) σ H s :=
  I.pins_of λp c=>(Jx.mp c).elim (λz=>I.pin p (Jz _ z)) λz=>by
    obtain⟨hb,e⟩:=ziS z;obtain⟨h,f1,f2,_⟩:=g p.1 hb;obtain⟨o,a,d⟩:=f p.1 hb;rw[e]at a;cases a;exact⟨e,h,f1,f2,d⟩
theorem Inv.unpinned {pins a:List (Addr × Obj)}{σ:St}{H:Hp}{s:Shared}(I:Inv X (pins++a) σ H s):Inv X pins σ H s:=I.pins_of λp b=>I.pin p (Jz _ (Ym _ b))
theorem zbx {iter:Expr}{body:List Stmt}{L:TI}{g:TG}{tb:TS}{pos:Pos}(y:PassesOwn (model X.prog X.w) X.A X.env X.xe) (P:X.calm=true) (hi:PI X tg iter L) (hg:PG X tg g) (hb:PSs X body tb)
    (hs:∀ x,foldedSetIterable iter X.env x=pure x:=by intro _;rfl):PS X (.For tg iter body [] pos) (tFor L g tb):=by
  intro pins s σ H D I h;refine wpAny_For (thn (hi pins s σ H _ I h) λv s1 h1=>thn h1 λaa s2 h2=>?_) hs;obtain⟨it,fp,tn,J,H2,e,I2,T,st2,f2,W,⟨m0,Z⟩,turn⟩:=h2;subst e;have p:∀ {H':Hp},(∀ b∈fp,H' b=none)->∀ b∈fp,FpOk X pins H' b:=λhn b hb=>⟨hn b hb,(f2 b hb).2⟩;refine codeAny_forLoop_any (λn s'=>∃ i l H',Inv X pins l H' s'/\tn i s'.heap/\(∀ b∈fp,H' b=none)/\W i n l H') ?_ m0 ⟨0,σ,H2,I2,st2,λb hb=>(f2 b hb).1,Z⟩;rintro n O ⟨i,k,B,Q,z,A,Y⟩;rcases turn i n k B Y with ⟨stop,qn⟩|⟨go,N,hN,step⟩
  · refine ZP y (thn (T.done X rfl rfl rfl P i pins O k B X.xe Q (p A) z stop) λr s4 ⟨E,I4⟩=>?_)
    subst E;exact wpAny_execs_nil ⟨k,B,I4,qn⟩
  · refine ZP y (thn (T.item X rfl rfl rfl P i pins O k B X.xe Q (p A) z go) λr s4 ⟨u,E,h4⟩=>?_)
    subst E;refine ZP y (thn h4 λ_ M ⟨x,R,I5,r5,S,t,G⟩=>?_);have K:=I5.pinned (p G) (T.obj _ _ t);refine ZP y (thn (hg _ M k R x u _ K r5 (step x R S)) λ_ s6 ⟨F,H6,I6,q6⟩=>?_);refine ZP y (thn (hb _ s6 F H6 _ I6 q6) λf C q=>?_)
    have again:∀ {a:St}{j:Hp},Inv X (pins++zcK fp M.heap) a j C->N a j->∃ m,m<n/\∃ i l H',Inv X pins l H' C/\tn i C.heap/\(∀ b∈fp,H' b=none)/\W i m l H':=λ{a j} c w=>by
      obtain⟨m',hm,V⟩:=hN a j w;refine⟨m',hm,i+1,a,j,c.unpinned,T.keep _ _ _ t λb hb o e=>(c.pin (b,o) (Jz _ (Jz _ (za0 hb e)))).1,λb hb=>?_,V⟩;obtain⟨o,e,d⟩:=T.obj _ _ t b hb;exact(c.pin (b,o) (Jz _ (Jz _ (za0 hb e)))).2.1
    cases f with
    | next=>obtain⟨a,j,c,w⟩:=q;exact again c w
    | cont=>obtain⟨a,j,c,w⟩:=q;exact again c w
    | brk=>obtain⟨a,j,c,q⟩:=q;exact⟨a,j,c.unpinned,q⟩
    | ret v=>obtain⟨U,a,j,c,r7,q⟩:=q;exact⟨U,a,j,c.unpinned,r7,q⟩
end
theorem zlc {K:PySem.W.Frag}{a:Addr}{xs:List V}{g:TG}{tb:TS}{D:Ends}{σ:St}{H:Hp}(b:Nat->St->Hp->Prop) (o:b 0 σ H) (n:∀ i σ H,i<=xs.length->b i σ H->SqL K H a xs)
    (l:∀ i x σ H,xs[i]?=some x->b i σ H->g x σ H λc h=>tb { D with nx:=b (i+1),ct:=b (i+1),bk:=D.nx } c h) (hd:∀ σ H,b xs.length σ H->D.nx σ H) :
    ∃ W:Nat->Nat->St->Hp->Prop,(∃ m,W 0 m σ H)/\∀ i m σ H,W i m σ H ->
      ((Itl K a).stop i H/\D.nx σ H)\/((Itl K a).go i H/\∃ N:St->Hp->Prop,(∀ d H',N d H'->∃ j,j<m/\W (i+1) j d H')/\∀ x H',(Itl K a).yld i H x H'->g x σ H' λc h=>tb { D with nx:=N,ct:=N,bk:=D.nx } c h):=by
  refine⟨λi m σ H=>m=xs.length-i/\i<=xs.length/\b i σ H,⟨xs.length,by simp,JS _,o⟩,?_⟩;rintro i m σ H ⟨rfl,hi,p⟩;have q:=n i σ H hi p;by_cases f:i<xs.length
  · refine .inr ⟨⟨xs,xs[i],q,by simp[f]⟩,b (i+1),λd H' k=>⟨xs.length-(i+1),by omega,rfl,f,k⟩,λx H' y=>?_⟩
    obtain⟨e,y⟩:=y;subst e;exact l i x σ _ (y xs q) p
  · have e:i=xs.length:=by omega
    subst e;exact .inl ⟨⟨xs,q,Jg _⟩,hd σ H p⟩
theorem zet {K:PySem.W.Frag}{a:Addr}{xs:List V}{g:TG}{tb:TS}{D:Ends}{σ:St}{H:Hp}(b:Nat->St->Hp->Prop) (o:b 0 σ H) (n:∀ i σ H,i<=xs.length->b i σ H->SqT K H a xs)
    (l:∀ i x σ H,xs[i]?=some x->b i σ H->g x σ H λc h=>tb { D with nx:=b (i+1),ct:=b (i+1),bk:=D.nx } c h) (hd:∀ σ H,b xs.length σ H->D.nx σ H) :
    ∃ W:Nat->Nat->St->Hp->Prop,(∃ m,W 0 m σ H)/\∀ i m σ H,W i m σ H ->
      ((Itt K a).stop i H/\D.nx σ H)\/((Itt K a).go i H/\∃ N:St->Hp->Prop,(∀ d H',N d H'->∃ j,j<m/\W (i+1) j d H')/\∀ x H',(Itt K a).yld i H x H'->g x σ H' λc h=>tb { D with nx:=N,ct:=N,bk:=D.nx } c h):=by
  refine⟨λi m σ H=>m=xs.length-i/\i<=xs.length/\b i σ H,⟨xs.length,by simp,JS _,o⟩,?_⟩;rintro i m σ H ⟨rfl,hi,p⟩;have q:=n i σ H hi p;by_cases f:i<xs.length
  · refine .inr ⟨⟨xs,xs[i],q,by simp[f]⟩,b (i+1),λd H' k=>⟨xs.length-(i+1),by omega,rfl,f,k⟩,λx H' y=>?_⟩
    obtain⟨e,y⟩:=y;subst e;exact l i x σ _ (y xs q) p
  · have e:i=xs.length:=by omega
    subst e;exact .inl ⟨⟨xs,q,Jg _⟩,hd σ H p⟩
theorem zbC {lo:Int}{n:Nat}{g:TG}{tb:TS}{D:Ends}{σ:St}{H:Hp}(a:Nat->St->Hp->Prop) (l:a 0 σ H)
    (k:∀ i σ H,i<n->a i σ H->g (.int (lo+i)) σ H λb f=>tb { D with nx:=a (i+1),ct:=a (i+1),bk:=D.nx } b f) (hd:∀ σ H,a n σ H->D.nx σ H) :
    ∃ W:Nat->Nat->St->Hp->Prop,(∃ m,W 0 m σ H)/\∀ i m σ H,W i m σ H ->
      ((Itr lo n).stop i H/\D.nx σ H)\/((Itr lo n).go i H/\∃ N:St->Hp->Prop,(∀ c H',N c H'->∃ h,h<m/\W (i+1) h c H')/\∀ x H',(Itr lo n).yld i H x H'->g x σ H' λb f=>tb { D with nx:=N,ct:=N,bk:=D.nx } b f):=by
  refine⟨λi m σ H=>m=n-i/\i<=n/\a i σ H,⟨n,by simp,JS _,l⟩,?_⟩;rintro i m σ H ⟨rfl,hi,p⟩;by_cases d:i<n
  · refine .inr ⟨d,a (i+1),λc H' j=>⟨n-(i+1),by omega,rfl,d,j⟩,λx H' y=>?_⟩
    obtain⟨e,y⟩:=y;subst e y;exact k i σ _ d p
  · have e:i=n:=by omega
    subst e;exact .inl ⟨Jg _,hd σ H p⟩
abbrev R2:=V->V->Hp->VK->Prop
def OpR (X:Cx) (f:Value->Value->Sem Value) (r:R2):Prop :=
  ∀ (pins:List (Addr × Obj)) (s:Shared) (σ:St) (H:Hp) (x y:V) (v u:Value) (Q:VK),Inv X pins σ H s->RelV x v->RelV y u->r x y H Q ->
    wpAny (model X.prog X.w) X.A (f v u) (EP X pins σ Q) X.xe s
def UnR (X:Cx) (f:Value->Sem Value) (r:V->Hp->VK->Prop):Prop :=
  ∀ (pins:List (Addr × Obj)) (s:Shared) (σ:St) (H:Hp) (x:V) (v:Value) (Q:VK),Inv X pins σ H s->RelV x v->r x H Q ->
    wpAny (model X.prog X.w) X.A (f v) (EP X pins σ Q) X.xe s
def CallR (X:Cx) (f:Value) (r:List V->Hp->VK->Prop):Prop :=
  ∀ (pins:List (Addr × Obj)) (s:Shared) (σ:St) (H:Hp) (xs:List V) (us:List Value) (Q:VK),Inv X pins σ H s->Vals xs us->r xs H Q ->
    wpAny (model X.prog X.w) X.A (call f us) (EP X pins σ Q) X.xe s
def TruR (X:Cx) (r:V->Hp->(Bool->Hp->Prop)->Prop):Prop :=
  ∀ (pins:List (Addr × Obj)) (s:Shared) (σ:St) (H:Hp) (x:V) (v:Value) (Q:Bool->Hp->Prop),Inv X pins σ H s->RelV x v->r x H Q ->
    wpAny (model X.prog X.w) X.A (truthy v) (TP X pins σ Q) X.xe s
def tOp (r:R2) (ta tb:TE):TE:=λσ H Q=>ta σ H λx H1=>tb σ H1 λy a=>r x y a Q
def tUn (r:V->Hp->VK->Prop) (ta:TE):TE:=λσ H Q=>ta σ H λx H1=>r x H1 Q
def rI (C:Int->Int->Prop) (g:Int->Int->V):R2:=λx y H Q=>∃ i j,x=.int i/\y=.int j/\C i j/\Q (g i j) H
def rI0 (g:Int->Int->V):R2:=λx y H Q=>∃ i j,x=.int i/\y=.int j/\Q (g i j) H
def rU (g:Int->V):V->Hp->VK->Prop:=λx H Q=>∃ i,x=.int i/\Q (g i) H
section
variable {X:Cx}{a b:Expr}{ta tb:TE}{pos:Pos}
theorem binT (ha:PE X a ta) (hb:PE X b tb) {pins:List (Addr × Obj)}{s:Shared}{σ:St}{H:Hp}{R:V->V->Hp->Prop}(I:Inv X pins σ H s)
    (h:ta σ H λx H1=>tb σ H1 λy c=>R x y c) {Q:Value->Shared->Prop}{f:Value->Value->Sem Value}
    (l:∀ v u s2 x y c,Inv X pins σ c s2->RelV x v->RelV y u->R x y c->wpAny (model X.prog X.w) X.A (f v u) Q X.xe s2) :
    wpAny (model X.prog X.w) X.A (eval a X.env) (λv e=>wpAny (model X.prog X.w) X.A (eval b X.env) (λu d=>wpAny (model X.prog X.w) X.A (f v u) Q X.xe d) X.xe e) X.xe s:=by
  refine thn (ha pins s σ H _ I h) λv s1 ⟨x,H1,n,i,k⟩=>?_;refine thn (hb pins s1 σ H1 _ n k) λu s2 ⟨y,c,m,g,j⟩=>?_;exact l v u s2 x y c m i g j
theorem zao {op:Operator}{r:R2}(e:OpR X (binaryOp op) r) (ha:PE X a ta) (hb:PE X b tb):PE X (.BinOp a op b pos) (tOp r ta tb):=by
  intro pins s σ H Q I h;exact wpAny_BinOp (binT ha hb I h λv u s2 x y g f d c q=>e pins s2 σ g x y v u Q f d c q)
theorem zku {op:UnaryOp}{r:V->Hp->VK->Prop}(d:UnR X (unaryOp op) r) (ha:PE X a ta):PE X (.UnaryOp op a pos) (tUn r ta):=by
  intro pins s σ H Q I h;exact UnaryOp_ (thn (ha pins s σ H _ I h) λv s1 ⟨x,H1,e,b,c⟩=>d pins s1 σ H1 x v Q e b c)
theorem opI {f:Value->Value->Sem Value}{C:Int->Int->Prop}{g:Int->Int->Int}
    (rule:∀ (i j:Int) (t u:Tok) (s:Shared) (Q:Value->Shared->Prop) (E:Value->Shared->Prop),C i j->Q (.int (g i j) s.toks) { s with toks:=s.toks+1 }->wpAny (model X.prog X.w) X.A (f (.int i t) (.int j u)) Q E s) :
    OpR X f (rI C λi j=>.int (g i j)):=by
  intro pins s σ H x y v u Q I b a h;obtain⟨i,j,rfl,rfl,c,q⟩:=h;obtain⟨t,rfl⟩:=b;obtain⟨t',rfl⟩:=a;exact rule i j t t' s _ _ c ⟨.int (g i j),H,I.tok _,⟨_,rfl⟩,q⟩
theorem opI0 {f:Value->Value->Sem Value}{g:Int->Int->Int}
    (rule:∀ (i j:Int) (t u:Tok) (s:Shared) (Q:Value->Shared->Prop) (E:Value->Shared->Prop),Q (.int (g i j) s.toks) { s with toks:=s.toks+1 }->wpAny (model X.prog X.w) X.A (f (.int i t) (.int j u)) Q E s) :
    OpR X f (rI0 λi j=>.int (g i j)):=by
  intro pins s σ H x y v u Q I b a h;obtain⟨i,j,rfl,rfl,q⟩:=h;obtain⟨t,rfl⟩:=b;obtain⟨t',rfl⟩:=a;exact rule i j t t' s _ _ ⟨.int (g i j),H,I.tok _,⟨_,rfl⟩,q⟩
theorem opB0 {f:Value->Value->Sem Value}{g:Int->Int->Bool}
    (rule:∀ (i j:Int) (t u:Tok) (s:Shared) (Q:Value->Shared->Prop) (E:Value->Shared->Prop),Q (.bool (g i j)) s->wpAny (model X.prog X.w) X.A (f (.int i t) (.int j u)) Q E s) :
    OpR X f (rI0 λi j=>.bl (g i j)):=by
  intro pins s σ H x y v u Q I b a h;obtain⟨i,j,rfl,rfl,q⟩:=h;obtain⟨t,rfl⟩:=b;obtain⟨t',rfl⟩:=a;exact rule i j t t' s _ _ ⟨.bl (g i j),H,I,rfl,q⟩
def CDiv (i j:Int):Prop:=0<j/\j<1073741824
def CPow (i j:Int):Prop:=0<=j/\j<=1000000/\i.natAbs<2 ^ 64
def CMul (i j:Int):Prop:=(-(2 ^ 64)<i/\i<2 ^ 64)\/(-(2 ^ 64)<j/\j<2 ^ 64)
theorem CMul.ok {i j:Int}(h:CMul i j):IntMulOk i j:=by
  rcases h with ⟨h1,a⟩|⟨h1,a⟩
  · exact .of_left (intBits_le_64 h1 a)
  · exact .of_right (intBits_le_64 h1 a)
theorem zaJ:OpR X (binaryOp .Add) (rI0 λi j=>.int (i+j)):=opI0 λ_ _ _ _ _ _ _ q=>add_int q
theorem zbO:OpR X (binaryOp .Sub) (rI0 λi j=>.int (i-j)):=opI0 λ_ _ _ _ _ _ _ q=>sub_int q
theorem zdf:OpR X (binaryOp .Mult) (rI CMul λi j=>.int (i*j)):=opI λ_ _ _ _ _ _ _ a q=>mul_int q a.ok
theorem zbi:OpR X (binaryOp .FloorDiv) (rI CDiv λi j=>.int (i / j)):=opI λi j _ _ _ _ _ a q=>by
  have h1:(0:Int)<j:=a.1;have b:j<1073741824:=a.2;exact floordiv_int (by omega) (by rw[Int.fdiv_eq_ediv_of_nonneg i (by omega)];exact q) (.inl (PyProof.noPylong_small (by omega)))
theorem zbh:OpR X (binaryOp .Mod) (rI (λ_ j=>0<j) λi j=>.int (i%j)):=opI λi j _ _ _ _ _ a q=>by
  have h1:(0:Int)<j:=a;exact mod_int' (by omega) (by rw[Int.fmod_eq_emod_of_nonneg i (by omega)];exact q)
theorem zlx:OpR X (binaryOp .Pow) (rI CPow λi j=>.int (i ^ j.toNat)):=opI λ_ _ _ _ _ _ _ a q=>pow_int_small a.1 a.2.1 a.2.2 q
theorem zmW:OpR X (inplaceOp .Mult) (rI CMul λi j=>.int (i*j)):=opI λ_ _ _ _ _ _ _ a q=>imul_int q a.ok
theorem unI {f:Value->Sem Value}{g:Int->Int}
    (rule:∀ (i:Int) (t:Tok) (s:Shared) (Q:Value->Shared->Prop) (E:Value->Shared->Prop),Q (.int (g i) s.toks) { s with toks:=s.toks+1 }->wpAny (model X.prog X.w) X.A (f (.int i t)) Q E s) :
    UnR X f (rU λi=>.int (g i)):=by
  intro pins s σ H x v Q I a h;obtain⟨i,rfl,q⟩:=h;obtain⟨t,rfl⟩:=a;exact rule i t s _ _ ⟨.int (g i),H,I.tok _,⟨_,rfl⟩,q⟩
theorem zgs:UnR X (unaryOp .USub) (rU λi=>.int (-i)):=unI λ_ _ _ _ _ q=>neg_int q
end
def scal:V->V->Bool
  | .non,.non=>true|.non,.int _=>true|.int _,.non=>true|.non,.bl _=>true|.bl _,.non=>true|.non,.str _=>true|.str _,.non=>true
  | .int _,.int _=>true|.bl _,.bl _=>true|.str _,.str _=>true|.byt _,.byt _=>true
  | .int _,.str _=>true|.str _,.int _=>true|.bl _,.str _=>true|.str _,.bl _=>true
  | _,_=>false
def rEq:R2:=λx y H Q=>scal x y=true/\Q (.bl (decide (x=y))) H
def rNe:R2:=λx y H Q=>scal x y=true/\Q (.bl (!decide (x=y))) H
theorem zjI {i j:Int}:decide (V.int i=V.int j)=(i == j):=by
  rw[YE];simp
theorem zlF {i j:Bool}:decide (V.bl i=V.bl j)=(i == j):=by
  rw[YE];simp
theorem zjH {i j:Str}:decide (V.str i=V.str j)=(i == j):=by
  rw[YE];simp
theorem zjJ {i j:Array UInt8}:decide (V.byt i=V.byt j)=(i.toList == j.toList):=by
  rw[YE];cases i;cases j;simp
section
variable {X:Cx}{a b c:Expr}{ta tb:TE}{pos:Pos}
theorem zaC {pins:List (Addr × Obj)}{σ:St}{H:Hp}{s:Shared}{Q:VK}{k a:Bool}(I:Inv X pins σ H s) (q:Q (.bl k) H) (e:k=a):EP X pins σ Q (.bool a) s:=by
  subst e;exact⟨.bl k,H,I,rfl,q⟩
theorem zen:OpR X (compareOp .Eq) rEq:=by
  intro pins s σ H x y v u Q I c a h;obtain⟨b,q⟩:=h
  cases x with
  | non =>
    cases c
    cases y with
    | non=>cases a;exact PySem.EqNone.eq_none_none (zaC I q (by simp))
    | bl j=>cases a;exact PySem.EqNone.eq_none_bool (zaC I q (by simp))
    | int j=>obtain⟨t',rfl⟩:=a;exact PySem.EqNone.eq_none_int (zaC I q (by simp))
    | str j=>obtain⟨t',rfl⟩:=a;exact PySem.EqNone.eq_none_str (zaC I q (by simp))
    | _=>exact absurd (show false=true from b) Jq
  | bl i =>
    cases c
    cases y with
    | non=>cases a;exact PySem.EqNone.eq_bool_none (zaC I q (by simp))
    | bl j=>cases a;exact eq_bool (zaC I q zlF)
    | str j=>obtain⟨t',rfl⟩:=a;exact PySem.EqMixed.eq_bool_str (zaC I q (by simp))
    | _=>exact absurd (show false=true from b) Jq
  | int i =>
    obtain⟨t,rfl⟩:=c
    cases y with
    | non=>cases a;exact PySem.EqNone.eq_int_none (zaC I q (by simp))
    | int j=>obtain⟨t',rfl⟩:=a;exact eq_int (zaC I q zjI)
    | str j=>obtain⟨t',rfl⟩:=a;exact PySem.EqMixed.eq_int_str (zaC I q (by simp))
    | _=>exact absurd (show false=true from b) Jq
  | str i =>
    obtain⟨t,rfl⟩:=c
    cases y with
    | non=>cases a;exact PySem.EqNone.eq_str_none (zaC I q (by simp))
    | bl j=>cases a;exact PySem.EqMixed.eq_str_bool (zaC I q (by simp))
    | int j=>obtain⟨t',rfl⟩:=a;exact PySem.EqMixed.eq_str_int (zaC I q (by simp))
    | str j=>obtain⟨t',rfl⟩:=a;exact eq_str (zaC I q zjH)
    | _=>exact absurd (show false=true from b) Jq
  | byt i =>
    obtain⟨t,rfl⟩:=c
    cases y with
    | byt j=>obtain⟨t',rfl⟩:=a;exact PySem.W.eq_bytes (zaC I q zjJ)
    | _=>exact absurd (show false=true from b) Jq
  | _=>cases y<;>exact absurd (show false=true from b) Jq
theorem zmr:OpR X (compareOp .NotEq) rNe:=by
  intro pins s σ H x y v u Q I c a h;obtain⟨b,q⟩:=h
  cases x with
  | non =>
    cases c
    cases y with
    | non=>cases a;exact PySem.EqNone.ne_none_none (zaC I q (by simp))
    | bl j=>cases a;exact PySem.EqNone.ne_none_bool (zaC I q (by simp))
    | int j=>obtain⟨t',rfl⟩:=a;exact PySem.EqNone.ne_none_int (zaC I q (by simp))
    | str j=>obtain⟨t',rfl⟩:=a;exact PySem.EqNone.ne_none_str (zaC I q (by simp))
    | _=>exact absurd (show false=true from b) Jq
  | bl i =>
    cases c
    cases y with
    | non=>cases a;exact PySem.EqNone.ne_bool_none (zaC I q (by simp))
    | bl j=>cases a;exact ne_bool (zaC I q (JR not zlF))
    | str j=>obtain⟨t',rfl⟩:=a;exact PySem.EqMixed.ne_bool_str (zaC I q (by simp))
    | _=>exact absurd (show false=true from b) Jq
  | int i =>
    obtain⟨t,rfl⟩:=c
    cases y with
    | non=>cases a;exact PySem.EqNone.ne_int_none (zaC I q (by simp))
    | int j=>obtain⟨t',rfl⟩:=a;exact ne_int (zaC I q (JR not zjI))
    | str j=>obtain⟨t',rfl⟩:=a;exact PySem.EqMixed.ne_int_str (zaC I q (by simp))
    | _=>exact absurd (show false=true from b) Jq
  | str i =>
    obtain⟨t,rfl⟩:=c
    cases y with
    | non=>cases a;exact PySem.EqNone.ne_str_none (zaC I q (by simp))
    | bl j=>cases a;exact PySem.EqMixed.ne_str_bool (zaC I q (by simp))
    | int j=>obtain⟨t',rfl⟩:=a;exact PySem.EqMixed.ne_str_int (zaC I q (by simp))
    | str j=>obtain⟨t',rfl⟩:=a;exact ne_str (zaC I q (JR not zjH))
    | _=>exact absurd (show false=true from b) Jq
  | byt i =>
    obtain⟨t,rfl⟩:=c
    cases y with
    | byt j=>obtain⟨t',rfl⟩:=a;exact PySem.W.ne_bytes (zaC I q (JR not zjJ))
    | _=>exact absurd (show false=true from b) Jq
  | _=>cases y<;>exact absurd (show false=true from b) Jq
theorem znz:OpR X (compareOp .Lt) (rI0 λi j=>.bl (decide (i<j))):=opB0 λ_ _ _ _ _ _ _ q=>lt_int q
theorem zms:OpR X (compareOp .Gt) (rI0 λi j=>.bl (decide (j<i))):=opB0 λ_ _ _ _ _ _ _ q=>gt_int q
theorem zop:OpR X (compareOp .GtE) (rI0 λi j=>.bl (decide (j<=i))):=opB0 λ_ _ _ _ _ _ _ q=>ge_int q
theorem znA:OpR X (compareOp .Is) (λx y H Q=>y=.non/\Q (.bl (decide (x=.non))) H):=by
  intro pins s σ H x y v u Q I a b h;obtain⟨rfl,q⟩:=h;cases b;refine is_none_gen (zaC I q ?_)
  cases x<;>first
    | (cases a;rfl)
    | (obtain⟨t,rfl⟩:=a;rfl)
theorem zaR (b:Expr) {op:CmpOp}(h:op≠.In:=by decide) (a:op≠.NotIn:=by decide):behindInMarks op b=false:=by
  have c:(op == CmpOp.In)=false:=by cases op<;>first|rfl|exact absurd rfl h
  have e2:(op == CmpOp.NotIn)=false:=by cases op<;>first|rfl|exact absurd rfl a
  cases b<;>simp[behindInMarks,c,e2]
theorem zel {op:CmpOp}{r:R2}(e:OpR X (compareOp op) r) (ha:PE X a ta) (hb:PE X b tb) (hm:behindInMarks op b=false):PE X (.Compare a [op] [b] pos) (tOp r ta tb):=by
  intro pins s σ H Q I h;exact wpAny_Compare1 (binT ha hb I h λv u s2 x y g f d c q=>e pins s2 σ g x y v u Q f d c q) hm
def zoa (t:TE):TT:=λσ H Q=>t σ H λx H'=>∃ k,x=.bl k/\Q k H'
theorem zaE {op:CmpOp}{r:R2}(m:OpR X (compareOp op) r) (ha:PE X a ta) (hb:PE X b tb) (hm:behindInMarks op b=false):PT X (.Compare a [op] [b] pos) (zoa (tOp r ta tb)):=by
  intro pins s σ H Q I h
  refine wpAny_isTrue_Compare1 (thn (ha pins s σ H _ I h) λv s1 ⟨x,H1,p,g,l⟩=>thn (hb pins s1 σ H1 _ p l) λu s2 ⟨y,t,o,f,j⟩ =>
    thn (m pins s2 σ t x y v u _ o g f j) λc w ⟨z,q,n,d,k,e,i⟩=>?_) hm
  subst e;cases d;exact ZV ⟨q,n,i⟩
def TruV (K:PySem.W.Frag) (x:V) (H:Hp) (k:Bool):Prop :=
  match x with
  | .non=>k=false
  | .bl b=>k=b
  | .int i=>k=(i != 0)
  | .str y=>y.length<=sizeLine/\k=((y.length:Int) != 0)
  | .byt y=>y.size<=sizeLine/\k=((y.size:Int) != 0)
  | .ref p=>(∃ xs,SqL K H p xs/\k = !xs.isEmpty)\/(∃ xs,SqT K H p xs/\k = !xs.isEmpty)\/∃ kvs,H p=some (.dK kvs)/\k = !kvs.isEmpty
  | _=>False
theorem zhI {κ:Type}{kvs:List (κ × V)}{vs:List (κ × Value)}(r:KV kvs vs):(!vs.isEmpty) = !kvs.isEmpty:=by
  cases r<;>rfl
theorem zdR {xs:List V}{its:List Value}(r:Vals xs its):(!its.toArray.isEmpty) = !xs.isEmpty:=by
  cases r<;>simp
theorem ze5:(sizeLine:Nat)<2 ^ 63:=by rw[JM];decide
theorem zni:TruR X (λx H Q=>∃ k,TruV X.K x H k/\Q k H):=by
  intro pins s σ H x v Q I c h;obtain⟨k,e,q⟩:=h;have n:=ze5;have l:sizeLine=16777216:=JM
  cases x with
  | non =>
    cases c;have a:k=false:=e;subst a
    exact truthy_none ⟨H,I,q⟩
  | bl b =>
    cases c;have a:k=b:=e;subst a
    exact ZV ⟨H,I,q⟩
  | int i =>
    obtain⟨t,rfl⟩:=c;have a:k=(i != 0):=e;subst a
    exact PySem.P.truthy_int ⟨H,I,q⟩
  | str y =>
    obtain⟨t,rfl⟩:=c;obtain⟨g,a⟩:y.length<=sizeLine/\k=((y.length:Int) != 0):=e;subst a
    exact PySem.P.truthy_str (by omega) ⟨H,I.tok _,q⟩
  | byt y =>
    obtain⟨t,rfl⟩:=c;obtain⟨g,a⟩:y.size<=sizeLine/\k=((y.size:Int) != 0):=e;subst a
    exact PySem.W.truthy_bytes (by omega) ⟨H,I.tok _,q⟩
  | ref p =>
    cases c;have a:(∃ xs,SqL X.K H p xs/\k = !xs.isEmpty)\/(∃ xs,SqT X.K H p xs/\k = !xs.isEmpty)\/∃ kvs,H p=some (.dK kvs)/\k = !kvs.isEmpty:=e;rcases a with ⟨xs,d,a⟩|⟨xs,d,a⟩|⟨kvs,d,a⟩
    · subst a
      obtain⟨its,r,f,hz⟩:=I.list d;have hlen:=r.length;exact wpAny_truthy_list f.isList (by simp only[Jj];omega) ⟨H,I.tok _,by rw[zdR r];exact q⟩
    · subst a
      obtain⟨its,r,f,hz⟩:=I.tuple d;have hlen:=r.length;exact truthy_tuple f (by simp only[Jj];omega) ⟨H,I.tok _,by rw[zdR r];exact q⟩
    · subst a
      obtain⟨hz,j,vs,r,m⟩:kvs.length<=sizeLine/\(p == sysModules)=false/\∃ vs,KV kvs vs/\s.heap.DictOf (zaZ X.prog X.w) p vs:=I.hok p _ d;have hlen:kvs.length=vs.length:=Z0 r
      exact wpAny_truthy_dict j m (by omega) ⟨H,I.tok _,by rw[zhI r];exact q⟩
  | _=>exact(show False from e).elim
theorem zkn (ha:PE X a ta) (d:∀ whole,isTrue a X.env whole=(do let v <- whole;standAt a.pos;holding [v] (truthy v))) :
    PT X a (λσ H Q=>ta σ H λx H'=>∃ k,TruV X.K x H' k/\Q k H'):=by
  intro pins s σ H Q I h;exact isTrue_plain (thn (ha pins s σ H _ I h) λv s1 ⟨x,H1,e,b,c⟩=>zni pins s1 σ H1 x v Q e b c) (d _)
theorem zdN:OpR X (binaryOp .Add) (λx y H Q=>∃ i j,x=.str i/\y=.str j/\i.length+j.length<=sizeLine/\Q (.str (i++j)) H):=by
  intro pins s σ H x y v u Q I b a h;obtain⟨i,j,rfl,rfl,hz,q⟩:=h;obtain⟨t,rfl⟩:=b;obtain⟨t',rfl⟩:=a;exact add_str (λt' tk=>⟨.str (i++j),H,I.tok _,⟨_,rfl⟩,q⟩) hz
theorem zg4 {x:V}{us:List Value}(r:Vals [x] us):∃ u,us=[u]/\RelV x u:=by
  cases r with
  | cons b a=>cases a;exact⟨_,rfl,b⟩
theorem zlO {x y:V}{us:List Value}(r:Vals [x,y] us):∃ u a,us=[u,a]/\RelV x u/\RelV y a:=by
  cases r with
  | cons e d =>
    cases d with
    | cons c b=>cases b;exact⟨_,_,rfl,e,c⟩
theorem zg3:CallR X (.builtin "abs") (λxs H Q=>∃ i,xs=[.int i]/\Q (.int (if i<0 then -i else i)) H):=by
  intro pins s σ H xs us Q I r h;obtain⟨i,rfl,q⟩:=h;obtain⟨u,rfl,t,rfl⟩:=zg4 r;exact call_abs_int λu tk=>⟨.int (if i<0 then -i else i),H,I.tok _,⟨_,rfl⟩,q⟩
theorem zcu (b:X.calm=true):CallR X (.builtin "max") (λxs H Q=>∃ i j,xs=[.int i,.int j]/\Q (.int (if j > i then j else i)) H):=by
  intro pins s σ H xs us Q I r h;obtain⟨i,j,rfl,q⟩:=h;obtain⟨u,c,rfl,⟨t,rfl⟩,⟨t',rfl⟩⟩:=zlO r;refine max_two_ints (I.ok.hd b) λh' tk k=>⟨_,H,I.kept k,?_,q⟩;by_cases a:j > i
  · rw[Jf a,Jf a];exact⟨_,rfl⟩
  · rw[Ja a,Ja a];exact⟨_,rfl⟩
theorem zjW (b:X.calm=true):CallR X (.builtin "min") (λxs H Q=>∃ i j,xs=[.int i,.int j]/\Q (.int (if j<i then j else i)) H):=by
  intro pins s σ H xs us Q I r h;obtain⟨i,j,rfl,q⟩:=h;obtain⟨u,c,rfl,⟨t,rfl⟩,⟨t',rfl⟩⟩:=zlO r;refine min_two_ints (I.ok.hd b) λh' tk k=>⟨_,H,I.kept k,?_,q⟩;by_cases a:j<i
  · rw[Jf a,Jf a];exact⟨_,rfl⟩
  · rw[Ja a,Ja a];exact⟨_,rfl⟩
theorem zfo:CallR X (.type "int") (λxs H Q=>(∃ i,xs=[.int i]/\Q (.int i) H)\/∃ k,xs=[.bl k]/\Q (.int (if k then 1 else 0)) H):=by
  intro pins s σ H xs us Q I r h;rcases h with ⟨i,rfl,q⟩|⟨k,rfl,q⟩
  · obtain⟨u,rfl,t,rfl⟩:=zg4 r
    exact call_int_int ⟨.int i,H,I,⟨_,rfl⟩,q⟩
  · obtain⟨u,rfl,a⟩:=zg4 r
    cases a;exact call_int_bool ⟨.int (if k then 1 else 0),H,I.tok _,⟨_,rfl⟩,q⟩
end
structure ObjM (h:Heap) (x dx C:Addr) (mA:Str->Option Value):Prop where
  obj:h.get? x=some (PySem.W.instObj C dx)
  ns:h.Ns1 dx mA
  ne:dx≠x
theorem zja {h:Heap}{dx:Addr}{mA:Str->Option Value}(n:h.Ns1 dx mA):∃ od,h.get? dx=some od/\∀ name,PySem.W.lookIn name od=some (mA name):=by
  obtain⟨o,es,ep,d,hd,f,_,hm⟩:=n;refine⟨o,d,λname=>?_⟩;have e:=hm name;unfold nsFind findBy at e;rw[<- Array.find?_toList]at e;unfold PySem.W.lookIn;rw[hd];dsimp only;split
  · rename_i y q
    rw[q]at e;exact JR some e
  · rename_i q
    rw[q]at e
    have a:es.toList.any (·.refKey)=false:=by
      rw[List.any_eq_false];intro y c;obtain⟨z,t,b⟩:=f y (Array.mem_toList_iff.mp c);simp[DictEntry.refKey,b]
    have g:¬ es.toList.any (·.refKey)=true:=by rw[a];exact Jq
    rw[Ja g];exact JR some e
theorem ObjM.look {h:Heap}{x dx C:Addr}{mA:Str->Option Value}(I:ObjM h x dx C mA):∃ od,PySem.W.InstAt h x (PySem.W.instObj C dx) C (some od)/\∀ name,PySem.W.lookIn name od=some (mA name) :=
  let ⟨od,a,b⟩:=zja I.ns
  ⟨od,⟨I.obj,rfl,rfl,a⟩,b⟩
section
variable {P:Program}{w:World}{H:Hp}{h:Heap}{a C dx:Addr}{fs:List (Str × V)}
theorem zmY (hok:HOk P w H h) (e:H a=some (.ins C dx fs)):∃ mA,ObjM h a dx C mA/\(∀ f,RelO (fs.lookup f) (mA f))/\PySem.Within mA (fs.map (·.1))/\fs.length<=1000/\H dx=some (.own a):=by
  obtain⟨d,z,ne,ob,mA,n,r,q⟩:=(show ObjOk P w H h a (.ins C dx fs) from hok a _ e);exact⟨mA,⟨ob,n,ne⟩,r,q,z,d⟩
end
structure Cls (K:PySem.W.Frag) (C:Addr):Prop where
  pg:PySem.W.plainGet K C Str.empty=true
  hd:PySem.W.hasDictIn K C=true
  po:PySem.W.plainOver K C=true
  sa:PySem.W.findIn K (.ref C) "__setattr__" = some (some (.builtin "object.__setattr__"))
theorem Cls.get {K:PySem.W.Frag}{C:Addr}(c:Cls K C) (f:Str):PySem.W.plainGet K C f=true:=c.pg
section
variable {X:Cx}{pins:List (Addr × Obj)}{σ:St}{H:Hp}{s:Shared}{A:Around}{E:Value->Shared->Prop}{Q:Value->Shared->Prop}{c:Value}{b:Bool}
inductive TyOf (K:PySem.W.Frag) (H:Hp):V->Value->Prop where
  | non:TyOf K H .non (.type "NoneType")
  | bl (x:Bool):TyOf K H (.bl x) (.type "bool")
  | int (i:Int):TyOf K H (.int i) (.type "int")
  | str (x:Str):TyOf K H (.str x) (.type "str")
  | flt (x:UInt64):TyOf K H (.flt x) (.type "float")
  | lst {a:Addr}{xs:List V}(e:H a=some (.lst xs)):TyOf K H (.ref a) (.type "list")
  | frz {a:Addr}{o:Obj}{xs:List V}(e:H a=some (.frz o (.lst xs))):TyOf K H (.ref a) (.type "list")
  | tup {a:Addr}{xs:List V}(e:H a=some (.tup xs)):TyOf K H (.ref a) (.type "tuple")
  | dK {a:Addr}{kvs:List (Key × V)}(e:H a=some (.dK kvs)):TyOf K H (.ref a) (.type "dict")
  | dT {a:Addr}{kvs:List (List Key × V)}(e:H a=some (.dT kvs)):TyOf K H (.ref a) (.type "dict")
  | ins {a C dx:Addr}{fs:List (Str × V)}(e:H a=some (.ins C dx fs)) (cl:Cls K C) (ha:PySem.W.findIn K (.ref C) "__class__" = some (some (.builtin "object.__class__")))
      (hn:PySem.W.specialIn K (.builtin "object.__class__") "__get__" = some (some (.builtin "getset_descriptor.__get__"))) (htk:PySem.W.takesIn K (.builtin "object.__class__")=some true)
      (hm:PySem.W.mroIn K C (.type "object")=some true):TyOf K H (.ref a) (.ref C)
theorem zjo {x:V}{u t:Value}(I:Inv X pins σ H s) (d:RelV x u) (ty:TyOf X.K H x t) (e:PySem.W.kitOne X.K t c=some b) (h:∀ tk,Q (.bool b) { s with toks:=tk }) :
    wpAny (model X.prog X.w) A (call (.builtin "isinstance") [u,c]) Q E s:=by
  cases ty with
  | non=>cases (show u=Value.none from d);exact YV PySem.W.kitx_none I.kIn True.intro e (λz=>nomatch z) h
  | bl y=>cases (show u=Value.bool y from d);exact YV PySem.W.kitx_bool I.kIn True.intro e (λz=>nomatch z) h
  | int i=>obtain⟨t,q⟩:=(show ∃ t,u=Value.int i t from d);cases q;exact YV PySem.W.kitx_int I.kIn True.intro e (λz=>nomatch z) h
  | str y=>obtain⟨t,q⟩:=(show ∃ t,u=Value.str y t from d);cases q;exact YV PySem.W.kitx_str I.kIn True.intro e (λz=>nomatch z) h
  | flt y=>obtain⟨t,q⟩:=(show ∃ t,u=Value.float y t from d);cases q;exact YV PySem.W.kitx_float I.kIn True.intro e (λz=>nomatch z) h
  | @lst a xs f =>
    cases (show u=Value.ref a from d);obtain⟨_,_,n,_,h1⟩:=(show ObjOk X.prog X.w H s.heap a (.lst xs) from I.hok a _ f)
    exact YV PySem.W.kitx_list I.kIn ⟨_,h1,rfl⟩ e (λz=>nomatch z) h
  | @frz a ob xs f =>
    cases (show u=Value.ref a from d);obtain⟨_,_,_,n,_,h1⟩:=(show ObjOk X.prog X.w H s.heap a (.frz ob (.lst xs)) from I.hok a _ f)
    exact YV PySem.W.kitx_list I.kIn ⟨_,h1,rfl⟩ e (λz=>nomatch z) h
  | @tup a xs f =>
    cases (show u=Value.ref a from d);obtain⟨_,_,_,j⟩:=(show ObjOk X.prog X.w H s.heap a (.tup xs) from I.hok a _ f);have p:=j.tup;obtain⟨o,h1,g,_⟩:=p
    exact YV PySem.W.kitx_tuple I.kIn ⟨o,h1,g⟩ e (λz=>nomatch z) h
  | @dK a kvs f =>
    cases (show u=Value.ref a from d);obtain⟨_,_,vs,_,p⟩:=(show ObjOk X.prog X.w H s.heap a (.dK kvs) from I.hok a _ f);obtain⟨o,es,ep,h1,g,_⟩:=p
    exact YV PySem.W.kitx_dict I.kIn ⟨o,h1,g.1⟩ e (λz=>nomatch z) h
  | @dT a kvs f =>
    cases (show u=Value.ref a from d);obtain⟨_,_,xs,_,o,es,ep,h1,g,_⟩:=(show ObjOk X.prog X.w H s.heap a (.dT kvs) from I.hok a _ f)
    exact YV PySem.W.kitx_dict I.kIn ⟨o,h1,g.1⟩ e (λz=>nomatch z) h
  | @ins a C dx fs f cl ha hn htk hm =>
    cases (show u=Value.ref a from d);obtain⟨mA,O,_⟩:=zmY I.hok f;obtain⟨od,J,_⟩:=O.look;exact YV (PySem.W.kitx_own (cl.get _) cl.hd ha hn htk hm) I.kIn J e (λz=>nomatch z) h
end
structure Room (k:Nat) (A:Around):Prop where
  hd:A.handled=none
  dp:A.depth+3*k+5<recursionLimit
  un:A.units+16*k+200<cLine
  gd:A.guards=some []
theorem Room.mono {j k:Nat}{A:Around}(r:Room k A) (h:j<=k):Room j A:=⟨r.hd,by have:=r.dp;omega,by have:=r.un;omega,r.gd⟩
theorem Room.deeper {k:Nat}{A:Around}(r:Room (k+1) A) (env:Env):Room k (A.deeper env) :=
  ⟨r.hd,by have:=r.dp;show A.depth+1+3*k+5<_;omega,by have:=r.un;show A.units+3+16*k+200<_;omega,r.gd⟩
theorem Room.depth {k:Nat}{A:Around}(r:Room k A):A.depth<recursionLimit:=by have:=r.dp;omega
theorem Room.units {k:Nat}{A:Around}(r:Room k A):A.units+64<cLine:=by have:=r.un;omega
theorem Room.units0 {k:Nat}{A:Around}(r:Room k A):A.units<cLine:=by have:=r.un;omega
def tNil:TA:=λ_ H Q=>Q [] H
def zlU (ta:TE) (a:TA):TA:=λσ H Q=>ta σ H λx H1=>a σ H1 λxs b=>Q (x::xs) b
section
variable {X:Cx}{e:Expr}{es:List Expr}{te:TE}{t:TA}{pos:Pos}
theorem zad:PA X [] tNil:=λ_ _ _ _ H Q I h=>ZW ⟨[],H,I,.nil,h⟩
theorem zaa (ha:PE X e te) (g:PA X es t) (f:starEach (e::es) X.env=(false,eval e X.env)::starEach es X.env:=by rfl):PA X (e::es) (zlU te t):=by
  intro pos pins s σ H Q I h;rw[f];show wpAny _ _ (spliced ((false,eval e X.env)::backTo pos (starEach es X.env))) _ _ s;refine Zu (thn (ha pins s σ H _ I h) λu s1 ⟨x,H1,j,b,d⟩=>?_);exact thn (g pos pins s1 σ H1 _ j d) λus s2 ⟨xs,k,i,a,c⟩=>⟨x::xs,k,i,.cons b a,c⟩
def tTup (t:TA):TE:=λσ H Q=>t σ H λxs H1=>xs.length<=sizeLine/\∀ p,H1 p=none->Q (.ref p) (upd H1 p (.tup xs))
def tLst (t:TA):TE:=λσ H Q=>t σ H λxs H1=>xs.length<=sizeLine/\∀ p,H1 p=none->Q (.ref p) (upd H1 p (.lst xs))
theorem zaB {x1} (h:PA X es t):PE X (.Tuple es x1 pos) (tTup t):=by
  intro pins s σ H Q I c;refine wpAny_Tuple_spliced (thn (h pos pins s σ H _ I c) λus s1 ⟨xs,H1,a,r,z,q⟩=>⟨by rw[<- r.length];exact z,?_⟩);have d:H1 s1.heap.objs.size=none:=a.hok.fresh (Jg _);refine⟨.ref s1.heap.objs.size,upd H1 s1.heap.objs.size (.tup xs),a.laid (t':=s1.toks) (λb u e=>J8 _ e) (Jg _) ?_,rfl,q _ d⟩;exact⟨z,us,r,TupX.new _ _⟩
theorem zba (h:PA X es t):PE X (.List es pos) (tLst t):=by
  intro pins s σ H Q I c;refine wpAny_List_spliced (thn (h pos pins s σ H _ I c) λus s1 ⟨xs,H1,a,r,z,q⟩=>⟨by rw[<- r.length];exact z,?_⟩);have d:H1 s1.heap.objs.size=none:=a.hok.fresh (Jg _);refine⟨.ref s1.heap.objs.size,upd H1 s1.heap.objs.size (.lst xs),a.laid (t':=s1.toks) (λb u e=>J8 _ e) (Jg _) ?_,rfl,q _ d⟩;exact⟨z,us,0,r,Jt _ rfl⟩
end
abbrev Sp:=List V->Hp->VK->XK->Prop
abbrev CXT:=List Env->Hp->Shared->XK->Value->Shared->Prop
structure Env0 (P:Program) (w:World) (K:PySem.W.Frag) (mg:Str->Option Value) (base:Heap) (A:Around) (outer:List Env) (s:Shared) (H:Hp):Prop where
  frames:A.frames=some outer
  mod:Mod K mg base
  bs:∀ b o,base.get? b=some o->s.heap.get? b=some o/\H b=none
  bsz:base.objs.size<=s.heap.objs.size
  funs:s.heap.FunFrames base outer
  frf:∀ b∈frs outer,H b=none
  hok:HOk P w H s.heap
  bare:AllBare s.gens
def CE (outer:List Env) (P:Program) (w:World) (H:Hp) (s:Shared) (Q:VK) (u:Value) (s':Shared):Prop :=
  ∃ v H',s'.os=s.os/\AllBare s'.gens/\Un (frs outer) [] H H' s.heap s'.heap/\HOk P w H' s'.heap/\RelV v u/\Q v H'
def CR (CX:CXT) (outer:List Env) (P:Program) (w:World) (H:Hp) (s:Shared) (Q:VK) (E:XK) (r:Result) (s':Shared):Prop :=
  match r with
  | .ok (.ret u)=>CE outer P w H s Q u s'
  | .ok _=>False
  | .error e=>CX outer H s E e s'
structure FnOk (P:Program) (w:World) (K:PySem.W.Frag) (mg:Str->Option Value) (base:Heap) (CX:CXT) (k:Nat) (f:Addr) (fd:FuncData) (ps:List Str) (sp:Sp):Prop where
  len:∀ vs H Q E,sp vs H Q E->vs.length=ps.length
  run:∀ (A:Around) (outer:List Env) (s:Shared) (H:Hp) (args:Args) (us:List Value) (vs:List V) (Q:VK) (E:XK),Room k A->Env0 P w K mg base A outer s H->BindsTo s fd args (ps.zip us)->Vals vs us->sp vs H Q E ->
    codeAny (model P w) A (.call (.ref f) args) (CR CX outer P w H s Q E) s
theorem FnOk.mono {P:Program}{w:World}{K:PySem.W.Frag}{mg:Str->Option Value}{base:Heap}{CX:CXT}{j k:Nat}{f:Addr}{fd:FuncData}{ps:List Str}{sp:Sp}(F:FnOk P w K mg base CX j f fd ps sp) (h:j<=k) :
    FnOk P w K mg base CX k f fd ps sp:=⟨F.len,λA outer s H args us vs Q E a=>F.run A outer s H args us vs Q E (a.mono h)⟩
theorem FnOk.imp {P:Program}{w:World}{K:PySem.W.Frag}{mg:Str->Option Value}{base:Heap}{CX:CXT}{k:Nat}{f:Addr}{fd:FuncData}{ps:List Str}{sp a:Sp}(F:FnOk P w K mg base CX k f fd ps sp)
    (h:∀ vs H Q E,a vs H Q E->sp vs H Q E):FnOk P w K mg base CX k f fd ps a :=
  ⟨λvs H Q E q=>F.len vs H Q E (h _ _ _ _ q),λA outer s H args us vs Q E d e hb b c=>F.run A outer s H args us vs Q E d e hb b (h _ _ _ _ c)⟩
section
variable {X:Cx}{pins:List (Addr × Obj)}{σ:St}{H:Hp}{s s':Shared}
theorem Inv.env0 (I:Inv X pins σ H s):Env0 X.prog X.w X.K X.mg X.base X.A X.stack s H :=
  ⟨I.ok.frames,I.ok.mod,I.bs,JX I.ok.bsz I.sz,I.stack,I.stkFree,I.hok,I.bare⟩
theorem Inv.after {Q:VK}{u:Value}(I:Inv X pins σ H s) (h:CE X.stack X.prog X.w H s Q u s'):EP X pins σ Q u s':=by
  obtain⟨v,H',os,bare,un,hok,r,q⟩:=h;obtain⟨c,g,d,t,a⟩:=s';obtain rfl:a=s.os:=os;exact⟨v,H',I.call (h':=c) (g':=g) (d':=d) (t':=t) (ch:=[]) un hok bare (λb z=>absurd z (by simp)),r,q⟩
end
def zoj (sp:Sp) (dvs:List V) (E:XK) (t:TA):TE:=λσ H Q=>t σ H λvs H1=>sp (vs++dvs) H1 Q E
def Binds (K:PySem.W.Frag) (fd:FuncData) (ps:List Str) (ds:List Value):Prop :=
  ∀ (s:Shared) (us:List Value),K.In s.heap->(us++ds).length=ps.length->BindsTo s fd ⟨us,[]⟩ (ps.zip (us++ds))
theorem Binds.all {K:PySem.W.Frag}{fd:FuncData}{ps:List Str}(h:∀ us:List Value,us.length=ps.length->bindArgs fd ⟨us,[]⟩=pure (ps.zip us)):Binds K fd ps []:=λs us _ a=>by
  rw[Yd]at a ⊢;exact .of_eq (h us a)
def Passes (CX:CXT) (X:Cx) (E:XK):Prop:=∀ (pins:List (Addr × Obj)) (σ:St) (H:Hp) (s:Shared) (e:Value) (s':Shared),Inv X pins σ H s->CX X.stack H s E e s'->X.xe e s'
section
variable {X:Cx}{CX:CXT}{k:Nat}{f:Addr}{fd:FuncData}{ps:List Str}{sp:Sp}{dvs:List V}{ds:List Value}{E:XK}{x:Str}{p pos:Pos}{e:Expr}{es:List Expr}{t:TA}
theorem znq {pins:List (Addr × Obj)}{σ:St}{H:Hp}{s:Shared}{Q:VK}{us:List Value}{vs:List V}(F:FnOk X.prog X.w X.K X.mg X.base CX k f fd ps sp) (d:Room k X.A) (hb:Binds X.K fd ps ds) (hd:Vals dvs ds) (c:Passes CX X E)
    (I:Inv X pins σ H s) (r:Vals vs us) (h:sp (vs++dvs) H Q E):wpAny (model X.prog X.w) X.A (call (.ref f) us) (EP X pins σ Q) X.xe s:=by
  have b:Vals (vs++dvs) (us++ds):=r.append hd;have g:(us++ds).length=ps.length:=by rw[<- b.length];exact F.len _ _ _ _ h
  refine wpAny_call (codeAny_mono (F.run X.A X.stack s H ⟨us,[]⟩ (us++ds) (vs++dvs) Q E d I.env0 (hb s us I.kIn g) b h) λr s' a=>?_)
  cases r with
  | error e=>exact c pins σ H s e s' I a
  | ok fl =>
    cases fl with
    | ret u=>exact I.after a
    | next=>exact False.elim a
    | brk=>exact False.elim a
    | cont=>exact False.elim a
theorem zal (F:FnOk X.prog X.w X.K X.mg X.base CX k f fd ps sp) (g:Room k X.A) (j:Gl X x) (hm:X.mg x=some (.ref f)) (i:PySem.W.keepIn X.K (.ref f)=true) (hb:Binds X.K fd ps ds) (hd:Vals dvs ds) (d:Passes CX X E)
    (ha:PA X (e::es) t) (b:(x == ("__debug__":Str))=false:=by decide) (l:starEach (e::es) X.env=(false,eval e X.env)::starEach es X.env:=by rfl) (a:(backTo pos (starEach es X.env)).any (·.1)=false:=by rfl) :
    PE X (.Call (.Name x p) (e::es) [] pos) (zoj sp dvs E t):=by
  intro pins s σ H Q I h;refine Ze (zf3 I j hm ?_ b);refine PySem.W.callWith_K (h₀:=X.base) I.ok.mod.kin i (thn (ha pos pins s σ H _ I h) λus s1 ⟨vs,H1,c,r,q⟩=>⟨c.kIn,?_⟩) l a;exact znq F g hb hd d c r q
end
structure FnScope (N P:List Str) (sc:Scope):Prop where
  kind:sc.kind=.function
  co:sc.isCoroutine=false
  gen:sc.isGenerator=false
  nd:N.Nodup
  pre:N.take P.length=P
  par:∀ x∈P,sc.names.lookup x=some .local \/ sc.names.lookup x=some .cell
  nofree:∀ y∈sc.names,y.2≠.free
theorem zfq {kindOf:Str->Option NameKind}{x:Str}:∀ {binds:List (Str × Value)}{m:Str->Option Value},(∀ v,(x,v)∉binds)->bindL kindOf binds m x=m x
  | [],_,_=>rfl
  | (n,v)::r,m,h=>by
    unfold bindL;rw[zfq λw a=>h w (JB _ a)];split
    · have:x≠n:=by rintro rfl;exact h v JC
      simp[this]
    · rfl
theorem zfs {kindOf:Str->Option NameKind}{x:Str}:∀ {binds:List (Str × Value)}{m:Str->Option Value},(∀ v,(x,v)∉binds)->bindC kindOf binds m x=m x
  | [],_,_=>rfl
  | (n,v)::r,m,h=>by
    unfold bindC;rw[zfs λw a=>h w (JB _ a)];split
    · rfl
    · have:x≠n:=by rintro rfl;exact h v JC
      simp[this]
theorem zfr {kindOf:Str->Option NameKind}{x:Str}{v:Value}:∀ {P:List Str}{vs:List Value}{i:Nat}{m:Str->Option Value},P.Nodup->P[i]?=some x->vs[i]?=some v->kindOf x=some .local ->
    bindL kindOf (P.zip vs) m x=some v
  | [],_,_,_,_,h,_,_=>by simp at h
  | _::_,[],_,_,_,_,h,_=>by simp at h
  | p::P,w::vs,0,m,nd,h1,a,b=>by
    simp at h1 a;subst h1;subst a;show bindL kindOf ((p,w)::P.zip vs) m p=_;unfold bindL;rw[zfq λv c=>(JJ.mp nd).1 (List.of_mem_zip c).1,Jf b]
    simp
  | p::P,w::vs,i+1,m,nd,h1,a,b=>by
    show bindL kindOf ((p,w)::P.zip vs) m x=_;unfold bindL;exact zfr (i:=i) (JJ.mp nd).2 (by simpa using h1) (by simpa using a) b
theorem zft {kindOf:Str->Option NameKind}{x:Str}{v:Value}:∀ {P:List Str}{vs:List Value}{i:Nat}{m:Str->Option Value},P.Nodup->P[i]?=some x->vs[i]?=some v->kindOf x≠some .local ->
    bindC kindOf (P.zip vs) m x=some v
  | [],_,_,_,_,h,_,_=>by simp at h
  | _::_,[],_,_,_,_,h,_=>by simp at h
  | p::P,w::vs,0,m,nd,h1,a,b=>by
    simp at h1 a;subst h1;subst a;show bindC kindOf ((p,w)::P.zip vs) m p=_;unfold bindC;rw[zfs λv c=>(JJ.mp nd).1 (List.of_mem_zip c).1,Ja b]
    simp
  | p::P,w::vs,i+1,m,nd,h1,a,b=>by
    show bindC kindOf ((p,w)::P.zip vs) m x=_;unfold bindC;exact zft (i:=i) (JJ.mp nd).2 (by simpa using h1) (by simpa using a) b
def zdz (N:List Str) (vs:List V):St:=vs.map some++List.replicate (N.length-vs.length) none
def cxOf (CX:CXT) (P:Program) (w:World) (K:PySem.W.Frag) (mg:Str->Option Value) (base:Heap) (N:List Str) (qual:Str) (scope:Scope) (f:Addr) (cd:Value) (A:Around) (outer:List Env) (s:Shared) (H:Hp) (E:XK):Cx where
  prog:=P
  w:=w
  K:=K
  mg:=mg
  base:=base
  A:=A.deeper (envOfC qual scope s.heap.objs.size f cd)
  N:=N
  s₀:=s
  H₀:=H
  env:=envOfC qual scope s.heap.objs.size f cd
  outer:=outer
  stack:=envOfC qual scope s.heap.objs.size f cd::outer
  ex:=[]
  calm:=true
  fn:=λ_=>true
  pn:=[]
  xe:=λe s'=>wpAny (model P w) (A.deeper (envOfC qual scope s.heap.objs.size f cd)) (leaving (envOfC qual scope s.heap.objs.size f cd) e) (λ_ a=>CX outer H s E e a) (λb a=>CX outer H s E b a) s'
theorem zg2 {sc:Scope}{n:Nat}{x:Str}(h:sc.names.lookup x=some .cell):∃ c,(cellsFrom n sc.names []).lookup x=some c:=by
  have q:=PySem.W.cellsFrom_some sc.names n [] (.inl h);exact ZM.mp q
theorem zjp {CX:CXT}{P:Program}{w:World}{K:PySem.W.Frag}{mg:Str->Option Value}{base:Heap}{N ps:List Str}{qual:Str}{scope:Scope}{f:Addr}{cd:Value}{A:Around}{outer:List Env}{s s1:Shared}{H:Hp}{E:XK}{us:List Value}{vs:List V}
    (S:FnScope N ps scope) (hd:A.handled=none) (g:Env0 P w K mg base A outer s H) (F:vs.length=ps.length) (r:Vals vs us)
    (x:InCallC s s.heap.objs.size (bindL (envOfC qual scope s.heap.objs.size f cd).kindOf (ps.zip us) λ_=>none) (cellsFrom (s.heap.objs.size+1) scope.names []) (bindC (envOfC qual scope s.heap.objs.size f cd).kindOf (ps.zip us) λ_=>none) s1) :
    Inv (cxOf CX P w K mg base N qual scope f cd A outer s H E) [] (zdz N vs) H s1:=by
  have D:ps.length<=N.length:=by have:=JR List.length S.pre;rw[JE]at this;omega
  obtain⟨h1,tk,rfl,B⟩:=x.done;have l:∀ b:Addr,b∉(cxOf CX P w K mg base N qual scope f cd A outer s H E).ex:=λb z=>absurd (show b∈([]:List Addr) from z) (by simp)
  refine⟨⟨g.mod,S.kind,rfl,rfl,Jg _,λy z c h1 d=>?_,λy j=>?_,λy c _ h=>?_,λ_=>hd,Around.frames_deeper g.frames,.inr ⟨rfl,rfl⟩,λb z=>absurd z (l b),g.bs,g.bsz,λb _ _=>l b,λb z=>absurd z (l b),g.funs,g.frf⟩,
    rfl,g.bare,Un.kept B,⟨_,x.toInCall.ns,λi y v h1 d G=>?_⟩,λy c h=>⟨_,x.cell y c h⟩,g.hok.fresh (Jg _),λy c h=>?_,λp m=>absurd (show p∈([]:List (Addr × Obj)) from m) (by simp),g.hok.kept B,?_⟩
  · exact name_of_addr x.apart (Zp h1) (Zp d)
  · have j:scope.names.lookup y=some .cell\/scope.names.lookup y=some .free:=j
    rcases j with j|j
    · exact zg2 j
    · exact absurd rfl (S.nofree _ (Zp j))
  · exact Nat.le_of_lt (x.above y c (Zp h))
  · have hi:i<vs.length:=by
      unfold zdz at d;by_cases hi:i<vs.length
      · exact hi
      · rw[Yg (by simpa using hi)]at d
        rw[List.getElem?_replicate]at d;split at d<;>cases d
    have ha:vs[i]?=some v:=by
      unfold zdz at d;rw[Yj (by simpa using hi),JL]at d
      cases e:vs[i]? with
      | none=>rw[e]at d;cases d
      | some a=>rw[e]at d;cases d;rfl
    obtain⟨u,t,C⟩:=r.get ha
    have m:ps[i]?=some y:=by
      rw[<- S.pre,ZN (by omega)];exact h1
    have o:ps.Nodup:=by rw[<- S.pre];exact S.nd.sublist (List.take_sublist _ _)
    refine⟨u,C,?_⟩;rcases S.par y (JP m) with k|k
    · exact .inl ⟨k,zfr o m t k⟩
    · obtain⟨c,e⟩:=zg2 (n:=s.heap.objs.size+1) k
      refine .inr ⟨.inl k,c,e,?_⟩;have q:=x.cell y c e;rw[zft o m t (by show scope.names.lookup y≠_;rw[k];decide)]at q;exact q
  · exact g.hok.fresh (Nat.le_of_lt (x.above y c (Zp h)))
  · unfold zdz
    show _=N.length;rw[Jn,Jm,Yh];omega
theorem zn0 {CX:CXT}{P:Program}{w:World}{K:PySem.W.Frag}{mg:Str->Option Value}{base:Heap}{k:Nat}{f:Addr}{name qual:Str}{params:Arguments}{body:List Stmt}{scope:Scope}{p kV doc pm cdv ct oc:Value}{an od:Option Addr}
    {osl:Array (Option Value)}{N ps:List Str}{sp:Sp}(B:K.lookup f=some ⟨oc,od,.func (PySem.W.fnOf name qual params body scope p kV doc pm an cdv ct),osl⟩) (m:PySem.W.codeIn K cdv qual=true) (S:FnScope N ps scope)
    (len:∀ vs H Q E,sp vs H Q E->vs.length=ps.length)
    (d:∀ (A:Around) (outer:List Env) (s:Shared) (H:Hp) (vs:List V) (Q:VK) (E:XK),Room k (A.deeper (envOfC qual scope s.heap.objs.size f cdv))->sp vs H Q E ->
      ∃ t,PSs (cxOf CX P w K mg base N qual scope f cdv A outer s H E) body t/\t { nx:=λ_ H'=>Q .non H',rt:=Q } (zdz N vs) H) :
    FnOk P w K mg base CX (k+1) f (PySem.W.fnOf name qual params body scope p kV doc pm an cdv ct) ps sp:=by
  refine⟨len,λA outer s H args us vs Q E l h hb r i=>?_⟩;have G:=len _ _ _ _ i;have z:K.In s.heap:=h.mod.kin.keeps λb o e=>(h.bs b o e).1;have lim:s.heap.NoLimit:=h.mod.nolimit.keeps λb o e=>(h.bs b o e).1
  have c:∀ y∈ps.zip us,scope.names.lookup y.1=some .local \/ (scope.names.lookup y.1=some .cell/\((cellsFrom (s.heap.objs.size+1) scope.names []).lookup y.1).isSome=true):=λ⟨n,v⟩ C=>by
    rcases S.par n (List.of_mem_zip C).1 with q|q
    · exact .inl q
    · exact .inr ⟨q,PySem.W.cellsFrom_some _ _ _ (.inl q)⟩
  refine codeAny_call_function l.depth (z _ _ B) rfl S.co S.gen rfl (PySem.W.codeRec_of z m) (hb _ _ _ _ ?_);refine wpAny_newFunctionEnv_cells S.kind c λenv L s1 x=>?_;subst L;refine⟨lim.keeps x.toInCall.keep,codeAny_func ?_⟩;obtain⟨t,D,F⟩:=d A outer s H vs Q E (l.deeper _) i;have I:Inv (cxOf CX P w K mg base N qual scope f cdv A outer s H E) [] (zdz N vs) H s1:=zjp S l.hd h G r x;refine JU (D [] s1 (zdz N vs) H _ I F) (λfl s' g=>?_) λe s' g=>g
  have fin:∀ {a:St}{H':Hp}{v:V}{u:Value},Inv (cxOf CX P w K mg base N qual scope f cdv A outer s H E) [] a H' s'->RelV v u->Q v H'->CE outer P w H s Q u s' :=
    λ{a H' v u} J j q=>⟨v,H',J.os,J.bare,J.base,J.hok,j,q⟩
  cases fl with
  | ret u =>
    obtain⟨v,a,H',J,j,q⟩:=g
    exact fin J j q
  | next =>
    obtain⟨a,H',J,q⟩:=g
    exact fin (v:=V.non) (u:=Value.none) J rfl q
  | brk =>
    obtain⟨_,_,_,q⟩:=g
    exact False.elim q
  | cont =>
    obtain⟨_,_,_,q⟩:=g;exact False.elim q
section
variable {X:Cx}{x:Str}{p pos:Pos}{e:Expr}{es:List Expr}{t:TA}{id T:String}{r:List V->Hp->VK->Prop}
def tCB (r:List V->Hp->VK->Prop) (t:TA):TE:=λσ H Q=>t σ H λvs H1=>r vs H1 Q
theorem zau (j:CallR X (.builtin id) r) (g:Gl X x) (hm:X.mg x=none) (f:bootBuiltins x=some (.builtin id)) (ha:PA X (e::es) t) (hn:x≠"__name__":=by decide) (b:(x == ("__debug__":Str))=false:=by decide)
    (i:starEach (e::es) X.env=(false,eval e X.env)::starEach es X.env:=by rfl) (a:(backTo pos (starEach es X.env)).any (·.1)=false:=by rfl):PE X (.Call (.Name x p) (e::es) [] pos) (tCB r t):=by
  intro pins s σ H Q I h;refine Ze (zbA I g hm f ?_ hn b);exact PyProof.Rows.callWith_builtin1 (thn (ha pos pins s σ H _ I h) λus s1 ⟨vs,H1,k,c,d⟩=>j pins s1 σ H1 vs us Q k c d) i a
theorem zat (j:CallR X (.type T) r) (g:Gl X x) (hm:X.mg x=none) (f:bootBuiltins x=some (.type T)) (ha:PA X (e::es) t) (hn:x≠"__name__":=by decide) (b:(x == ("__debug__":Str))=false:=by decide)
    (i:starEach (e::es) X.env=(false,eval e X.env)::starEach es X.env:=by rfl) (a:(backTo pos (starEach es X.env)).any (·.1)=false:=by rfl):PE X (.Call (.Name x p) (e::es) [] pos) (tCB r t):=by
  intro pins s σ H Q I h;refine Ze (zbA I g hm f ?_ hn b);exact Yk (thn (ha pos pins s σ H _ I h) λus s1 ⟨vs,H1,k,c,d⟩=>j pins s1 σ H1 vs us Q k c d) i a
end
end L2
namespace HT
open PySem PyProof.Rows
section
variable {prog:Program}{w:World}{A:Around}{E:Value->Shared->Prop}{s:Shared}
theorem cat_tup {t b:Addr}{vs ws:List Value}{Q:Value->Shared->Prop}(o:IsTup s.heap t vs.toArray) (hb:IsTup s.heap b ws.toArray) (j:vs≠[])
    (h1:ws=[]->Q (.ref t) s) (p:ws≠[]->Q (.ref s.heap.objs.size) { s with heap:=s.heap.push { cls:=.type "tuple",data:=.seq (vs++ws).toArray } })
    (hsz:vs.length+ws.length<=sizeLine):wpAny (model prog w) A (binaryOp .Add (.ref t) (.ref b)) Q E s:=by
  obtain⟨⟨cls,l,data,sl⟩,i,k,n,hd⟩:=id o;obtain⟨⟨m,g,data2,c⟩,a,f,n2,d⟩:=id hb;simp only at k hd f d;subst k hd f d;have e:vs.toArray++ws.toArray=(vs++ws).toArray:=by simp
  by_cases h:ws=[]
  · exact concat_meets ⟨_,i,rfl⟩ ⟨_,a,rfl⟩ noFill_tuple_add seq_tuple_add PySem.F.slot_tuple_add PySem.F.entry_tuple_add (PySem.F.args_tuple_add_2 _ _)
      (tuple_addW1 t b vs.toArray ws.toArray n n2 l g sl c (by simpa using j) (by simp[h])) ⟨i,a,h1 h⟩
  · refine concat_meets ⟨_,i,rfl⟩ ⟨_,a,rfl⟩ noFill_tuple_add seq_tuple_add PySem.F.slot_tuple_add PySem.F.entry_tuple_add (PySem.F.args_tuple_add_2 _ _)
      (tuple_addW2 t b vs.toArray ws.toArray n n2 l g sl c (by simpa using j) (by simpa using h) (by rw[Jj,Jj];exact hsz)) ⟨i,a,?_⟩
    rw[e];exact p h
def sIx (n d:Nat):Option Int->Nat
  | none=>d
  | some v=>if v<0 then (v+(n:Int)).toNat else min v.toNat n
theorem sIx_none (n d:Nat):sIx n d none=d:=rfl
theorem sIx_nat (n d k:Nat):sIx n d (some (k:Int))=min k n:=by
  show (if (k:Int)<0 then ((k:Int)+(n:Int)).toNat else min (k:Int).toNat n)=min k n;rw[Ja (by omega),Yt]
theorem znp (n d:Nat) (hd:d<=n) (o:Option Int):sIx n d o<=n:=by
  cases o with
  | none=>exact hd
  | some v =>
    show (if v<0 then (v+(n:Int)).toNat else min v.toNat n)<=n;by_cases a:v<0
    · rw[Jf a];omega
    · rw[Ja a];exact Nat.min_le_right _ _
theorem zjR (v:Int) (n d:Nat):(if v<0 then max (v+(n:Int)) 0 else min v (n:Int))=((sIx n d (some v):Nat):Int):=by
  show (if v<0 then max (v+(n:Int)) 0 else min v (n:Int))=(((if v<0 then (v+(n:Int)).toNat else min v.toNat n):Nat):Int);by_cases a:v<0
  · simp only[Jf a];omega
  · simp only[Ja a];omega
theorem zhN (lo hi:Option Int) (n:Nat):Builtin.Slice.sliceAdjust lo hi 1 (n:Int)=(((sIx n 0 lo:Nat):Int),((sIx n n hi:Nat):Int)):=by
  have h1:¬((1:Int)<0):=by omega
  unfold Builtin.Slice.sliceAdjust;simp only[h1,Zb];refine Prod.ext ?_ ?_
  · cases lo with
    | none=>rfl
    | some v=>exact zjR v n 0
  · cases hi with
    | none=>rfl
    | some v=>exact zjR v n n
theorem zhk (i j:Nat):Builtin.Slice.slicePlaces (i:Int) (j:Int) 1=j-i:=by
  unfold Builtin.Slice.slicePlaces;have h1:(1:Int) > 0:=by omega
  simp only[h1,Yv,Int.ediv_one];split<;>omega
theorem zdH {v:Value}{o:Option Int}{Q:Option Int->Shared->Prop}(p:IsPart v o) (h:Q o s):wpAny (model prog w) A (Builtin.Slice.slicePartIndex v) Q E s:=by
  cases p with
  | none=>exact Ws h
  | int i t=>exact slicePart_int h
theorem sliceApplied_gen {sl:Addr}{d c:Value}{lo hi:Option Int}{n:Nat}{Q:Int × Int × Nat->Shared->Prop}(f:s.heap.IsSliceOf sl d c .none) (e:IsPart d lo) (pu:IsPart c hi)
    (h:Q (((sIx n 0 lo:Nat):Int),1,sIx n n hi-sIx n 0 lo) s):wpAny (model prog w) A (Builtin.Slice.sliceApplied (.ref sl) (pure (n:Int))) Q E s:=by
  obtain⟨os,a,g,b⟩:=id f;unfold Builtin.Slice.sliceApplied Builtin.Slice.sliceFields;refine J0 (J0 (Z3 a b (x:=d) rfl (J0 (Z3 a b (x:=c) rfl (J0 (Z3 a b (x:=.none) rfl (J7 ?_)))))));refine J0 (Ws ?_);show wpAny _ _ (if ((1:Int) == 0)=true then _ else _) _ _ s;rw[Ja (by decide)];refine J0 (zdH e (J0 (zdH pu (J0 (J7 ?_)))));show wpAny _ _ (match Builtin.Slice.sliceAdjust lo hi 1 (n:Int) with|(lo,hi)=>pure (lo,(1:Int),Builtin.Slice.slicePlaces lo hi 1)) _ _ s;rw[zhN lo hi n];show wpAny _ _ (pure (((sIx n 0 lo:Nat):Int),(1:Int),Builtin.Slice.slicePlaces ((sIx n 0 lo:Nat):Int) ((sIx n n hi:Nat):Int) 1)) _ _ s;rw[zhk];exact J7 h
theorem zkt (xs:Array Value) (i k:Nat):((List.range k).filterMap λ(m:Nat)=>xs[((i:Int)+(m:Int)*1).toNat]?).toArray=((xs.toList.drop i).take k).toArray:=by
  have e:(λ(m:Nat)=>xs[((i:Int)+(m:Int)*1).toNat]?)=λm=>xs[i+m]?:=by
    funext m
    have:((i:Int)+(m:Int)*1).toNat=i+m:=by omega
    rw[this]
  rw[e];have:=pick_run xs i k;rw[ZS]at this;have e2:((λx=>xs[x]?)∘λx=>i+x)=λm=>xs[i+m]?:=rfl;rw[e2]at this;rw[this]
theorem getItem_tuple_cut {t sl:Addr}{items:Array Value}{i g:Value}{lo hi:Option Int}{Q:Value->Shared->Prop}(b:IsTup s.heap t items) (j:s.heap.IsSliceOf sl i g .none) (k:IsPart i lo) (pu:IsPart g hi)
    (l:¬(sIx items.size 0 lo=0/\sIx items.size items.size hi=items.size))
    (h:Q (.ref s.heap.objs.size) { s with heap:=s.heap.push { cls:=.type "tuple",data:=.seq ((items.toList.drop (sIx items.size 0 lo)).take (sIx items.size items.size hi-sIx items.size 0 lo)).toArray } })
    (hsz:items.size<=sizeLine):wpAny (model prog w) A (getItem (.ref t) (.ref sl)) Q E s:=by
  have a:sizeOk (.seq ((items.toList.drop (sIx items.size 0 lo)).take (sIx items.size items.size hi-sIx items.size 0 lo)).toArray):=by
    show ((items.toList.drop (sIx items.size 0 lo)).take (sIx items.size items.size hi-sIx items.size 0 lo)).toArray.size<=sizeLine;rw[Jj,JE,Zd,Ju];omega
  have r:sIx items.size items.size hi<=items.size:=znp _ _ (Jg _) hi;obtain⟨os,c,e,n⟩:=id j;have f:s.TypeIs (.ref sl) "slice":=⟨os,c,e⟩;unfold getItem
  try with_reducible refine Y1 ?_
  first|refine J0 (J7 ?_)|skip
  refine J0 (wpAny_sequenceKey b.typeIs (by decide) ?_)
  refine J0 (wpAny_callSpecial?_slot (name:=Str.ofString "__getitem__") b.typeIs Yu
    (JV Yu b.typeIs entry_tuple_getitem ?_ (args_tuple_getitem _ _)))
  show wpAny _ _ (Builtin.Tuple.tupleItemsOf (.ref t) >>= _) _ _ s;refine J0 (tupleItemsOf_ b ?_);refine J0 (YQ f ?_);rw[Jf (by decide)];refine J0 (sliceApplied_gen j k pu ?_)
  have d:¬((((sIx items.size 0 lo:Nat):Int) == 0 && (1:Int) == 1 && (sIx items.size items.size hi-sIx items.size 0 lo) == items.size)=true):=by
    intro q;rw[ZH,ZH]at q;have p:((sIx items.size 0 lo:Nat):Int)=0:=eq_of_beq q.1.1;have o:sIx items.size items.size hi-sIx items.size 0 lo=items.size:=eq_of_beq q.2;exact l ⟨by omega,by omega⟩
  show wpAny _ _ (if (((sIx items.size 0 lo:Nat):Int) == 0 && (1:Int) == 1 && (sIx items.size items.size hi-sIx items.size 0 lo) == items.size)=true then _ else _) _ _ s;rw[Ja d,zkt]
  first
    | exact J0 (m:=Builtin.Tuple.tupleExact _) (JQ (J7 ⟨_,rfl,J7 h⟩) a)
    | exact J0 (m:=Builtin.Tuple.tupleExact _) (JQ (J0 (J7 (J7 ⟨_,rfl,J7 h⟩))) a)
    | exact J0 (J0 (m:=Builtin.Tuple.tupleExact _) (JQ (J7 (J7 ⟨_,rfl,J7 h⟩)) a))
    | exact J0 (J0 (m:=Builtin.Tuple.tupleExact _) (JQ (J7 ⟨_,rfl,J7 h⟩) a))
end
end HT
namespace L2
open PySem PySem.Spec PyProof.Rows
abbrev TO:=St->Hp->(Option Int->Hp->Prop)->Prop
def PO (X:Cx) (e:Option Expr) (t:TO):Prop :=
  ∀ (pins:List (Addr × Obj)) (s:Shared) (σ:St) (H:Hp) (Q:Option Int->Hp->Prop),Inv X pins σ H s->t σ H Q ->
    wpAny (model X.prog X.w) X.A (evalPart e X.env) (λu s'=>∃ o H',Inv X pins σ H' s'/\IsPart u o/\Q o H') X.xe s
def zlS:TO:=λ_ H Q=>Q none H
def zob (t:TE):TO:=λσ H Q=>t σ H λx H1=>∃ i,x=.int i/\Q (some i) H1
section
variable {X:Cx}{e:Expr}{te:TE}{lo hi:Option Expr}{tl th:TO}{pos p2:Pos}
theorem zbv:PO X none zlS:=by
  intro pins s σ H Q I h;rw[evalPart_none];exact J7 ⟨none,H,I,.none,h⟩
theorem zaO (h:PE X e te):PO X (some e) (zob te):=by
  intro pins s σ H Q I c;rw[evalPart_some];refine thn (h pins s σ H _ I c) λu s1 ⟨x,H1,d,a,b⟩=>?_;obtain⟨i,rfl,q⟩:=b;obtain⟨t,rfl⟩:=a;exact⟨some i,H1,d,.int i t,q⟩
def SlR (X:Cx) (r:V->Option Int->Option Int->Hp->VK->Prop):Prop :=
  ∀ (pins:List (Addr × Obj)) (s:Shared) (σ:St) (H:Hp) (x:V) (v b a:Value) (lo hi:Option Int) (sl:Addr) (Q:VK),Inv X pins σ H s->RelV x v->s.heap.IsSliceOf sl b a .none->IsPart b lo->IsPart a hi->r x lo hi H Q ->
    ∃ T id,typeLookup (.type T) "__getitem__" = pure (some (.builtin id))/\s.TypeIs v T/\wpAny (model X.prog X.w) X.A (getItem v (.ref sl)) (EP X pins σ Q) X.xe s
def tSl (r:V->Option Int->Option Int->Hp->VK->Prop) (te:TE) (tl th:TO):TE:=λσ H Q=>te σ H λx H1=>tl σ H1 λl b=>th σ b λu a=>r x l u a Q
theorem zbn {r:V->Option Int->Option Int->Hp->VK->Prop}(p:SlR X r) (y:PE X e te) (t:PO X lo tl) (n:PO X hi th):PE X (.Subscript e (.Slice lo hi none p2) pos) (tSl r te tl th):=by
  intro pins s σ H Q I h;refine Subscript_ (thn (y pins s σ H _ I h) λv s1 ⟨x,H1,D,g,k⟩=>?_);refine wpAny_Slice (thn (t pins s1 σ H1 _ D k) λd s2 ⟨l,E,C,m,j⟩=>thn (n pins s2 σ E _ C j) λc a ⟨u,f,B,pu,i⟩=>?_);rw[evalPart_none];refine J7 ?_;have A:Inv X pins σ f { a with heap:=a.heap.push { cls:=.type "slice",data:=.fields #[d,c,.none] } }:=B.kept (t':=a.toks) λb ob q=>J8 _ q;obtain⟨T,id,z,o,w⟩:=p pins { a with heap:=a.heap.push { cls:=.type "slice",data:=.fields #[d,c,.none] } } σ f x v d c l u a.heap.objs.size Q A g (Wt ..) m pu i;show wpAny (model X.prog X.w) X.A (subscriptTail e (.Slice lo hi none p2) v (.ref a.heap.objs.size)) (EP X pins σ Q) X.xe { a with heap:=a.heap.push { cls:=.type "slice",data:=.fields #[d,c,.none] } };exact tail_any (ops:=[.ref a.heap.objs.size,v]) o z w (by with_unfolding_all rfl)
def cutV (xs:List V) (lo hi:Option Int):List V:=(xs.drop (HT.sIx xs.length 0 lo)).take (HT.sIx xs.length xs.length hi-HT.sIx xs.length 0 lo)
theorem zds (xs:List V) (lo hi:Option Int):(cutV xs lo hi).length<=xs.length:=by
  unfold cutV;rw[JE,Zd];omega
def rSlT (K:PySem.W.Frag):V->Option Int->Option Int->Hp->VK->Prop:=λx lo hi H Q=>∃ a xs,x=.ref a/\SqT K H a xs /\
  ¬(HT.sIx xs.length 0 lo=0/\HT.sIx xs.length xs.length hi=xs.length)/\∀ p,H p=none->Q (.ref p) (upd H p (.tup (cutV xs lo hi)))
theorem znn:SlR X (rSlT X.K):=by
  intro pins s σ H x v k j lo hi sl Q I d i e pu h;obtain⟨a,xs,rfl,f,g,q⟩:=h;cases d;obtain⟨its,r,c,hz⟩:=I.tuple f;have hlen:its.toArray.size=xs.length:=by rw[Jj];exact r.length.symm
  refine⟨"tuple",_,PyProof.Rows.slot_tuple_getitem.lookup,c.typeIs,?_⟩;refine HT.getItem_tuple_cut c i e pu (by rw[hlen];exact g) ?_ (by rw[hlen];exact hz);rw[hlen];refine⟨.ref s.heap.objs.size,_,I.laid (t':=s.toks) (o:=.tup (cutV xs lo hi)) (λb ob q=>J8 _ q) (Jg _) ?_,rfl,q _ (I.hok.fresh (Jg _))⟩;exact⟨JX (zds xs lo hi) hz,_,(r.drop (HT.sIx xs.length 0 lo)).take (HT.sIx xs.length xs.length hi-HT.sIx xs.length 0 lo),TupX.new _ _⟩
def zon (K:PySem.W.Frag):R2:=λx y H Q=>∃ a b xs ys,x=.ref a/\y=.ref b/\SqT K H a xs/\SqT K H b ys/\xs≠[]/\xs.length+ys.length<=sizeLine /\
  (ys=[]->Q (.ref a) H)/\(ys≠[]->∀ p,H p=none->Q (.ref p) (upd H p (.tup (xs++ys))))
theorem Vals.nil_iff {xs:List V}{us:List Value}(r:Vals xs us):us=[]↔xs=[]:=by
  cases r with
  | nil=>simp
  | cons _ _=>simp
theorem zmt:OpR X (binaryOp .Add) (zon X.K):=by
  intro pins s σ H x y v u Q I g f h;obtain⟨a,b,xs,ys,rfl,rfl,ha,hb,l,hz,j,i⟩:=h;cases g;cases f;obtain⟨its,d,k,_⟩:=I.tuple ha;obtain⟨e,c,p2,_⟩:=I.tuple hb;refine HT.cat_tup k p2 (λz=>l (d.nil_iff.mp z)) (λz=>⟨.ref a,H,I,rfl,j (c.nil_iff.mp z)⟩) (λz=>?_) (by rw[<- d.length,<- c.length];exact hz);refine⟨.ref s.heap.objs.size,_,I.laid (t':=s.toks) (o:=.tup (xs++ys)) (λb ob q=>J8 _ q) (Jg _) ?_,rfl,i (λw=>z (c.nil_iff.mpr w)) _ (I.hok.fresh (Jg _))⟩;exact⟨by rw[Jn];exact hz,_,d.append c,TupX.new _ _⟩
end
def ixN (n:Nat) (i:Int):Option Nat:=if 0<=i then (if i<n then some i.toNat else none) else if -(n:Int)<=i then some (i+n).toNat else none
def atI {α:Type}(xs:List α) (i:Int):Option α:=(ixN xs.length i).bind λj=>xs[j]?
theorem zf6 {n:Nat}{i:Int}{j:Nat}(h:ixN n i=some j):seqIndex? i n=some j/\j<n/\-(n:Int)<=i/\i<n:=by
  unfold ixN at h;by_cases a:0<=i
  · rw[Jf a]at h
    by_cases h1:i<n
    · rw[Jf h1]at h
      have e:i.toNat=j:=Js h;exact⟨by rw[seqIndex_of a h1,e],by omega,by omega,h1⟩
    · rw[Ja h1]at h;cases h
  · rw[Ja a]at h
    by_cases h1:-(n:Int)<=i
    · rw[Jf h1]at h
      have e:(i+n).toNat=j:=Js h;exact⟨by rw[seqIndex_neg (by omega) h1,e],by omega,h1,by omega⟩
    · rw[Ja h1]at h;cases h
theorem zj1 {α:Type}{xs:List α}{i:Int}{v:α}(h:atI xs i=some v):∃ j,seqIndex? i xs.length=some j/\xs[j]?=some v/\j<xs.length/\-(xs.length:Int)<=i/\i<xs.length:=by
  unfold atI at h
  cases e:ixN xs.length i with
  | none=>rw[e]at h;cases h
  | some j =>
    rw[e]at h;obtain⟨h1,c,b,a⟩:=zf6 e;exact⟨j,h1,h,c,b,a⟩
theorem zb6 {α:Type}{xs:List α}{j:Nat}{v:α}(h:xs[j]?=some v):atI xs (j:Int)=some v:=by
  have a:j<xs.length:=(J9.mp h).1
  have e:ixN xs.length (j:Int)=some j:=by
    unfold ixN;rw[Jf (by omega),Jf (by omega)];simp
  unfold atI;rw[e];exact h
theorem zlo {α:Type}(xs:List α) (v:α):atI (xs++[v]) (-1)=some v:=by
  have a:(xs++[v]).length=xs.length+1:=by simp
  have e:ixN (xs++[v]).length (-1)=some xs.length:=by
    unfold ixN;rw[a,Ja (by decide),Jf (by omega)]
    congr 1
    omega
  unfold atI;rw[e];show (xs++[v])[xs.length]?=some v;simp
def PlainIx (b:Expr):Prop:=∀ o i,subscripted b false o i=operate [o,i] (getItem o i)
def IxR (X:Cx) (r:R2):Prop :=
  ∀ (value slice:Expr) (pins:List (Addr × Obj)) (s:Shared) (σ:St) (H:Hp) (x y:V) (v u:Value) (Q:VK),Inv X pins σ H s->RelV x v->RelV y u->r x y H Q ->
    subscripted slice false v u=operate [v,u] (getItem v u)->wpAny (model X.prog X.w) X.A (subscriptTail value slice v u) (EP X pins σ Q) X.xe s
def MtR (X:Cx) (id:String) (r:V->List V->Hp->VK->Prop):Prop :=
  ∀ (pins:List (Addr × Obj)) (s:Shared) (σ:St) (H:Hp) (x:V) (xs:List V) (v:Value) (us:List Value) (Q:VK),Inv X pins σ H s->RelV x v->Vals xs us->r x xs H Q ->
    wpAny (model X.prog X.w) X.A (call (.builtin id) (v::us)) (EP X pins σ Q) X.xe s
section
variable {X:Cx}{a b:Expr}{ta tb:TE}{pos:Pos}
theorem zaP {r:R2}(f:IxR X r) (ha:PE X a ta) (hb:PE X b tb) (e:PlainIx b):PE X (.Subscript a b pos) (tOp r ta tb):=by
  intro pins s σ H Q I h;exact Subscript_ (binT ha hb I h λv u s2 x y i g d c q=>f a b pins s2 σ i x y v u Q g d c q (e _ _))
def rIxL (K:PySem.W.Frag):R2:=λx y H Q=>∃ p xs i v,x=.ref p/\y=.int i/\SqL K H p xs/\atI xs i=some v/\Q v H
def rIxT (K:PySem.W.Frag):R2:=λx y H Q=>∃ p xs i v,x=.ref p/\y=.int i/\SqT K H p xs/\atI xs i=some v/\Q v H
theorem zaK:IxR X (rIxL X.K):=by
  intro value slice pins s σ H x y v u Q I k g h d;obtain⟨p,xs,i,z,rfl,rfl,l,n,q⟩:=h;cases k;obtain⟨t,rfl⟩:=g;obtain⟨its,r,a,hz⟩:=I.list l;obtain⟨j,h1,B,C,A,o⟩:=zj1 n;obtain⟨w,f,c⟩:=r.get B;have m:=r.length;have hn:=ze5;have fin:EP X pins σ Q w s:=⟨z,H,I,c,q⟩;by_cases e:0<=i
  · have b:i.toNat=j:=by
      rw[seqIndex_of e o]at h1;exact Js h1
    exact item_listR a.isList e (by omega) (by rw[b];simpa using f) fin d
  · have b:(i+(its.toArray.size:Int)).toNat=j:=by
      rw[seqIndex_neg (by omega) A]at h1;rw[Jj,<- m];exact Js h1
    exact subscriptTail_builtinR (x:=w) a.isList.typeIs slot_list_getitem.lookup
      (wpAny_getItem_list_neg (Q:=λr s'=>r=w/\EP X pins σ Q r s') a.isList (by omega) (by rw[Jj]<;>omega) (by omega) (by rw[b];simpa using f) ⟨rfl,fin⟩) d
theorem zbc:IxR X (rIxT X.K):=by
  intro value slice pins s σ H x y v u Q I d c h e;obtain⟨p,xs,i,z,rfl,rfl,f,k,q⟩:=h;cases d;obtain⟨t,rfl⟩:=c;obtain⟨its,r,b,hz⟩:=I.tuple f;obtain⟨j,h1,l,A,o,n⟩:=zj1 k;obtain⟨w,m,a⟩:=r.get l;have g:=r.length;have hn:=ze5;have fin:EP X pins σ Q w s:=⟨z,H,I,a,q⟩
  exact subscriptTail_builtinR (x:=w) b.typeIs slot_tuple_getitem.lookup
    (getItem_tuple (j:=j) (Q:=λr s'=>r=w/\EP X pins σ Q r s') b (by omega) (by omega) (by rw[Jj,<- g];exact h1) (by simpa using m) ⟨rfl,fin⟩) e
theorem zhA (its:List Value) (n j:Nat) (u:Value):Obj.mapSeq (·.setIfInBounds j u) { cls:=.type "list",data:=.seq its.toArray n }={ cls:=.type "list",data:=.seq (its.set j u).toArray n }:=by
  simp[Obj.mapSeq]
theorem Inv.lst {pins:List (Addr × Obj)}{σ:St}{H:Hp}{s:Shared}{p:Addr}{xs:List V}(I:Inv X pins σ H s) (h:H p=some (.lst xs)) :
    ∃ (its:List Value) (n:Nat),Vals xs its/\s.heap.get? p=some { cls:=.type "list",data:=.seq its.toArray n }/\xs.length<=sizeLine:=by
  obtain⟨z,its,n,r,e⟩:=I.hok p _ h;exact⟨its,n,r,e,z⟩
theorem Inv.lstUpd {pins:List (Addr × Obj)}{σ:St}{H:Hp}{s:Shared}{p:Addr}{xs ys:List V}{its its':List Value}{n a:Nat}{f:Obj->Obj}(I:Inv X pins σ H s) (h:H p=some (.lst xs))
    (d:s.heap.get? p=some { cls:=.type "list",data:=.seq its.toArray n }) (c:f { cls:=.type "list",data:=.seq its.toArray n }={ cls:=.type "list",data:=.seq its'.toArray a }) (r:Vals ys its') (hz:ys.length<=sizeLine) (t:Nat) :
    Inv X pins σ (upd H p (.lst ys)) { s with heap:=s.heap.update p f,toks:=t }:=by
  have e:(s.heap.update p f).get? p=some { cls:=.type "list",data:=.seq its'.toArray a }:=by
    rw[Y9 f d (by rw[c]<;>rfl),c]
  refine I.write (x:=p) (e:=p) (by rw[h];trivial) (.inl rfl) (λb u hb q=>(JZ _ _ (Ne.symm hb)).trans q) ⟨_,e⟩ ?_;exact⟨hz,its',a,r,e⟩
def zom:V->V->V->Hp->(Hp->Prop)->Prop:=λo i v H Q=>∃ p xs k j,o=.ref p/\i=.int k/\H p=some (.lst xs)/\ixN xs.length k=some j/\Q (upd H p (.lst (xs.set j v)))
theorem zbd:PSet X zom:=by
  intro pins s σ H o i v z A u Q I w x m h;obtain⟨p,xs,k,j,rfl,rfl,d,y,q⟩:=h;cases w;obtain⟨t,rfl⟩:=x;obtain⟨its,n,r,a,hz⟩:=I.lst d;obtain⟨h1,B,f,e⟩:=zf6 y;have b:=r.length;have hn:=ze5
  have l:Inv X pins σ (upd H p (.lst (xs.set j v))) { s with heap:=s.heap.update p (Obj.mapSeq (·.setIfInBounds j u)) } :=
    I.lstUpd d a (zhA its n j u) (r.set m j) (by rw[Z9];exact hz) s.toks
  by_cases g:0<=k
  · have c:k.toNat=j:=by
      rw[seqIndex_of g e]at h1;exact Js h1
    exact PySem.W.ki_setAt a g (by omega) (by rw[Jj,<- b];exact e) (by rw[c];exact⟨_,l,q⟩)
  · have c:(k+(its.toArray.size:Int)).toNat=j:=by
      rw[seqIndex_neg (by omega) f]at h1;rw[Jj,<- b];exact Js h1
    exact PySem.W.ki_setBack a (by omega) (by rw[Jj,<- b];exact f) (by omega) (by rw[c];exact⟨_,l,q⟩)
theorem zeL (lo hi:Option Int) (n:Nat):(sliceBounds lo hi none n).1=((HT.sIx n 0 lo:Nat):Int)/\(sliceBounds lo hi none n).2.1=((HT.sIx n n hi:Nat):Int)/\(sliceBounds lo hi none n).2.2=1:=by
  refine⟨?_,?_,rfl⟩
  · cases lo with
    | none=>simp[sliceBounds,HT.sIx]
    | some i =>
      simp only[sliceBounds,HT.sIx,Option.getD_none,show (1:Int) > 0 by decide,Yv];by_cases h:i<0
      · simp only[h,Yv]<;>omega
      · simp only[h,Zb]<;>omega
  · cases hi with
    | none=>simp[sliceBounds,HT.sIx]
    | some i =>
      simp only[sliceBounds,HT.sIx,Option.getD_none,show (1:Int) > 0 by decide,Yv];by_cases h:i<0
      · simp only[h,Yv]<;>omega
      · simp only[h,Zb]<;>omega
theorem zec (its:List Value) (lo hi:Option Int):slicePick its.toArray lo hi none=((its.drop (HT.sIx its.length 0 lo)).take (HT.sIx its.length its.length hi-HT.sIx its.length 0 lo)).toArray:=by
  obtain⟨h1,b,a⟩:=zeL lo hi its.toArray.size;unfold slicePick;rw[h1,b,a];simp only[sliceRange_one,pick_run,Jj]<;>rfl
def rSlL (K:PySem.W.Frag):V->Option Int->Option Int->Hp->VK->Prop:=λx lo hi H Q=>∃ a xs,x=.ref a/\SqL K H a xs/\∀ p,H p=none->Q (.ref p) (upd H p (.lst (cutV xs lo hi)))
theorem zim:SlR X (rSlL X.K):=by
  intro pins s σ H x v j i lo hi sl Q I d g e pu h;obtain⟨a,xs,rfl,f,q⟩:=h;cases d;obtain⟨its,r,c,hz⟩:=I.list f;have hlen:=r.length;refine⟨"list",_,slot_list_getitem.lookup,c.isList.typeIs,?_⟩;refine wpAny_getItem_list_slice c.isList g e pu .none (by simp) ?_ (by rw[Jj]<;>omega);rw[zec,<- hlen];refine⟨.ref s.heap.objs.size,_,I.laid (t':=s.toks) (o:=.lst (cutV xs lo hi)) (λb ob q=>J8 _ q) (Jg _) ?_,rfl,q _ (I.hok.fresh (Jg _))⟩;exact⟨JX (zds xs lo hi) hz,_,0,(r.drop (HT.sIx xs.length 0 lo)).take (HT.sIx xs.length xs.length hi-HT.sIx xs.length 0 lo),Jt _ rfl⟩
def zdo:V->Bool
  | .non=>true
  | .bl _=>true
  | .int _=>true
  | .str _=>true
  | _=>false
def eqV:V->V->Bool
  | .non,.non=>true
  | .bl a,.bl b=>a == b
  | .bl a,.int b=>(if a then 1 else 0) == b
  | .int a,.bl b=>a == (if b then 1 else 0)
  | .int a,.int b=>a == b
  | .str a,.str b=>a == b
  | _,_=>false
theorem zjD {A:Around}{s:Shared}{y x:V}{u v:Value}(d:RelV y u) (c:RelV x v) (f:zdo y=true) (e:zdo x=true):SeqAt.EqAt A s u v (eqV y x):=by
  cases y with
  | non =>
    cases d
    cases x with
    | non=>cases c;exact SeqAt.EqAt.same _
    | bl b=>cases c;exact SeqAt.EqAt.none_bool b
    | int b=>obtain⟨t,rfl⟩:=c;exact SeqAt.EqAt.none_int b t
    | str b=>obtain⟨t,rfl⟩:=c;exact SeqAt.EqAt.none_str b t
    | _=>exact absurd (show false=true from e) Jq
  | bl a =>
    cases d
    cases x with
    | non=>cases c;exact SeqAt.EqAt.bool_none a
    | bl b=>cases c;exact SeqAt.EqAt.bool_bool a b
    | int b=>obtain⟨t,rfl⟩:=c;exact SeqAt.EqAt.bool_int a b t
    | str b=>obtain⟨t,rfl⟩:=c;exact SeqAt.EqAt.bool_str a b t
    | _=>exact absurd (show false=true from e) Jq
  | int a =>
    obtain⟨t',rfl⟩:=d
    cases x with
    | non=>cases c;exact SeqAt.EqAt.int_none a t'
    | bl b=>cases c;exact SeqAt.EqAt.int_bool a t' b
    | int b=>obtain⟨t,rfl⟩:=c;exact SeqAt.EqAt.int_int a t' b t
    | str b=>obtain⟨t,rfl⟩:=c;exact SeqAt.EqAt.int_str a t' b t
    | _=>exact absurd (show false=true from e) Jq
  | str a =>
    obtain⟨t',rfl⟩:=d
    cases x with
    | non=>cases c;exact SeqAt.EqAt.str_none a t'
    | bl b=>cases c;exact SeqAt.EqAt.str_bool a t' b
    | int b=>obtain⟨t,rfl⟩:=c;exact SeqAt.EqAt.str_int a t' b t
    | str b=>obtain⟨t,rfl⟩:=c;exact SeqAt.EqAt.str_str a t' b t
    | _=>exact absurd (show false=true from e) Jq
  | _=>exact absurd (show false=true from f) Jq
def eqU (x:V) (u:Value):Bool:=match u with
  | .none=>eqV .non x
  | .bool b=>eqV (.bl b) x
  | .int i _=>eqV (.int i) x
  | .str z _=>eqV (.str z) x
  | _=>false
theorem zlD {x y:V}{u:Value}(r:RelV y u) (f:zdo y=true):eqU x u=eqV y x:=by
  cases y with
  | non=>cases r;rfl
  | bl b=>cases r;rfl
  | int i=>obtain⟨t,rfl⟩:=r;rfl
  | str z=>obtain⟨t,rfl⟩:=r;rfl
  | _=>exact absurd (show false=true from f) Jq
theorem zgm {x:V}:∀ {xs:List V}{us:List Value},Vals xs us->xs.all zdo=true->us.any (eqU x)=xs.any λy=>eqV y x
  | _,_,.nil,_=>rfl
  | y::xs,u::us,.cons r t,f=>by
    rw[List.all_cons,ZH]at f;rw[List.any_cons,List.any_cons,zlD r f.1,zgm t f.2]
theorem zeq {A:Around}{s:Shared}{x:V}{v:Value}(b:RelV x v) (c:zdo x=true):∀ {xs:List V}{us:List Value},Vals xs us->xs.all zdo=true->∀ u∈us,SeqAt.EqAt A s u v (eqU x u)
  | _,_,.nil,_=>λu a=>by cases a
  | y::xs,u::us,.cons r t,f=>λd a=>by
    rw[List.all_cons,ZH]at f;rcases Jh.mp a with rfl|a
    · rw[zlD r f.1];exact zjD r b f.1 c
    · exact zeq b c t f.2 d a
def inV (x:V) (xs:List V):Bool:=xs.any λy=>eqV y x
def rIn (K:PySem.W.Frag) (neg:Bool):R2:=λx y H Q=>∃ p xs,y=.ref p/\(SqL K H p xs\/SqT K H p xs)/\zdo x=true/\xs.all zdo=true/\Q (.bl (if neg then !inV x xs else inV x xs)) H
theorem ziI:OpR X (compareOp .In) (rIn X.K false):=by
  intro pins s σ H x y v u Q I d f h;obtain⟨p,xs,rfl,a,e,fs,q⟩:=h;cases f;rcases a with a|a
  · obtain⟨its,r,b,hz⟩:=I.list a
    refine SeqAt.in_listAt (eqU x) b.isList (λw c=>zeq d e r fs w (by simpa using c)) ⟨.bl _,H,I,rfl,?_⟩;rw[show its.toArray.any (eqU x)=its.any (eqU x) by simp,zgm r fs];exact q
  · obtain⟨its,r,b,hz⟩:=I.tuple a
    refine SeqAt.in_tupleAt (eqU x) b (λw c=>zeq d e r fs w (by simpa using c)) ⟨.bl _,H,I,rfl,?_⟩;rw[show its.toArray.any (eqU x)=its.any (eqU x) by simp,zgm r fs];exact q
theorem zay:CallR X (.builtin "len") (λxs H Q=>∃ p ys,xs=[.ref p]/\(SqL X.K H p ys\/SqT X.K H p ys)/\Q (.int ys.length) H):=by
  intro pins s σ H xs us Q I r h;obtain⟨p,ys,rfl,a,q⟩:=h;obtain⟨u,rfl,d⟩:=zg4 r;cases d;have hn:=ze5;rcases a with a|a
  · obtain⟨its,b,c,hz⟩:=I.list a
    have hlen:=b.length;exact Calls.call_len_list c.isList (by simp only[Jj]<;>omega) ⟨.int ys.length,H,I.tok _,⟨s.toks+1,by rw[Jj,hlen]⟩,q⟩
  · obtain⟨its,b,c,hz⟩:=I.tuple a
    have hlen:=b.length;exact len_tuple c (by simp only[Jj]<;>omega) ⟨.int ys.length,H,I.tok _,⟨s.toks+1,by rw[Jj,hlen]⟩,q⟩
theorem zbr:CallR X (.type "list") (λxs H Q=>∃ p ys,xs=[.ref p]/\(SqL X.K H p ys\/SqT X.K H p ys)/\∀ l,H l=none->Q (.ref l) (upd H l (.lst ys))):=by
  intro pins s σ H xs us Q I r h;obtain⟨p,ys,rfl,d,q⟩:=h;obtain⟨u,rfl,j⟩:=zg4 r;cases j
  have fin:∀ (its:List Value),Vals ys its->ys.length<=sizeLine->∀ (h':Heap) (c:Nat),(∀ b o',s.heap.get? b=some o'->h'.get? b=some o') ->
      h'.get? s.heap.objs.size=some { cls:=.type "list",dict:=none,data:=.seq its.toArray c,slots:=#[] }->EP X pins σ Q (.ref s.heap.objs.size) { s with heap:=h' }:=λits a hz h' c kp e =>
    ⟨.ref s.heap.objs.size,_,I.laid (t':=s.toks) kp (Jg _) (show ObjOk X.prog X.w _ h' _ (.lst ys) from⟨hz,its,c,a,e⟩),rfl,q _ (I.hok.fresh (Jg _))⟩
  rcases d with d|d
  · obtain⟨its,a,f,hz⟩:=I.list d
    have hlen:=a.length;obtain⟨o,g,i,n,hd⟩:=f.isList;exact call_list_seq p (.inl rfl) g i hd (λh' c kp e=>fin its a hz h' c kp e) (by simp only[Jj]<;>omega)
  · obtain⟨its,a,f,hz⟩:=I.tuple d
    have hlen:=a.length;obtain⟨o,g,i,n,hd⟩:=f;exact call_list_seq p (.inr rfl) g i hd (λh' c kp e=>fin its a hz h' c kp e) (by simp only[Jj]<;>omega)
theorem zar:CallR X (.type "tuple") (λxs H Q=>∃ p ys,xs=[.ref p]/\((SqL X.K H p ys/\∀ l,H l=none->Q (.ref l) (upd H l (.tup ys)))\/(SqT X.K H p ys/\Q (.ref p) H))):=by
  intro pins s σ H xs us Q I r h;obtain⟨p,ys,rfl,h⟩:=h;obtain⟨u,rfl,g⟩:=zg4 r;cases g;rcases h with ⟨d,q⟩|⟨d,q⟩
  · obtain⟨its,a,c,hz⟩:=I.list d
    have hlen:=a.length;refine call_tuple_list c.isList (λh' kp=>?_) (by simp only[Jj]<;>omega);have f:Inv X pins σ H { s with heap:=h' }:=I.kept (t':=s.toks) kp
    have i:Inv X pins σ (upd H h'.objs.size (.tup ys)) { s with heap:=h'.push { cls:=.type "tuple",data:=.seq its.toArray } } :=
      f.laid (t':=s.toks) (λb o e=>J8 _ e) (Jg _) (show ObjOk X.prog X.w _ _ _ (.tup ys) from⟨hz,its,a,TupX.new _ _⟩)
    exact⟨.ref h'.objs.size,_,i,rfl,q _ (f.hok.fresh (Jg _))⟩
  · obtain⟨its,a,c,hz⟩:=I.tuple d
    exact call_tuple_same c ⟨.ref p,H,I,rfl,q⟩
def tyV (K:PySem.W.Frag) (T:String) (x:V) (H:Hp):Prop:=match x with
  | .str _=>T = "str"
  | .int _=>T = "int"
  | .ref p=>(T = "list"/\∃ xs,SqL K H p xs)\/(T = "tuple"/\∃ o,K.lookup p=some o/\o.cls=.type "tuple"/\o.dict=none) \/
      (T = "dict"/\((∃ kvs,H p=some (.dK kvs))\/∃ kvs,H p=some (.dT kvs)))\/(T = "set"/\∃ S n,H p=some (.set S n))
  | _=>False
theorem zng {pins:List (Addr × Obj)}{σ:St}{H:Hp}{s:Shared}{T:String}{x:V}{v:Value}(I:Inv X pins σ H s) (r:RelV x v) (ty:tyV X.K T x H) :
    s.TypeIs v T/\∀ a,v=.ref a->∃ ob,s.heap.get? a=some ob/\ob.dict=none:=by
  cases x with
  | str z =>
    obtain⟨t,rfl⟩:=r;cases (show T = "str" from ty)
    exact⟨typeIs_str s z t,λ_ e=>nomatch e⟩
  | int i =>
    obtain⟨t,rfl⟩:=r;cases (show T = "int" from ty)
    exact⟨typeIs_int s i t,λ_ e=>nomatch e⟩
  | ref p =>
    cases r;rcases ty with ⟨rfl,xs,f⟩|⟨rfl,o,b,g,hd⟩|⟨rfl,b⟩|⟨rfl,S,n,b⟩
    · obtain⟨its,_,d,_⟩:=I.list f
      refine⟨d.isList.typeIs,λa e=>?_⟩;cases e;obtain⟨o,n,e,c,hd,_⟩:=d;exact⟨o,e,hd⟩
    · refine⟨⟨o,I.kIn p o b,g⟩,λa e=>?_⟩
      cases e;exact⟨o,I.kIn _ o b,hd⟩
    · have z:∃ o,s.heap.get? p=some o/\o.ExactDict:=by
        rcases b with ⟨kvs,b⟩|⟨kvs,b⟩
        · obtain⟨_,_,_,_,o,_,_,e,ex,_⟩:=I.hok p _ b
          exact⟨o,e,ex⟩
        · obtain⟨_,_,_,_,o,_,_,e,ex,_⟩:=I.hok p _ b
          exact⟨o,e,ex⟩
      obtain⟨o,e,ex⟩:=z;refine⟨⟨o,e,ex.1⟩,λa e2=>?_⟩;cases e2;exact⟨o,e,ex.2.1⟩
    · obtain⟨o,_,_,_,e,ex,_⟩:=I.hok p _ b
      refine⟨⟨o,e,ex.1⟩,λa e2=>?_⟩;cases e2
      exact⟨o,e,ex.2.1⟩
  | _=>exact False.elim ty
def tBM (K:PySem.W.Frag) (T:String) (r:V->List V->Hp->VK->Prop) (to:TE) (t:TA):TE:=λσ H Q=>to σ H λx H1=>tyV K T x H1/\t σ H1 λxs a=>r x xs a Q
variable {o e:Expr}{es:List Expr}{to:TE}{t:TA}{name:Str}{apos cpos:Pos}{T id:String}{r:V->List V->Hp->VK->Prop}
theorem zdc (n:PlainAttrs T) (slot:Slot T name id) (f:typeOf (.builtin id)=pure (.type "method_descriptor")) (hm:MtR X id r) (q:PE X o to) (ha:PA X (e::es) t)
    (c:attributeBase o name X.env (eval o X.env)=eval o X.env:=by rfl)
    (d:((backTo cpos (starEach (e::es) X.env)).all (λx=>!x.1) && (backToKw cpos (keywordEach [] X.env)).all (λx=>x.1.isSome)
      && decide ((e::es).length+([]:List Keyword).length+(if ([]:List Keyword).isEmpty then 0 else 1)<30))=true:=by rfl)
    (b:(apos.endLine == cpos.line)=true:=by rfl) (p:starEach (e::es) X.env=(false,eval e X.env)::starEach es X.env:=by rfl) (a:(backTo cpos (starEach es X.env)).any (·.1)=false:=by rfl) :
    PE X (.Call (.Attribute o name apos) (e::es) [] cpos) (tBM X.K T r to t):=by
  intro pins s σ H Q I h;refine wpAny_Call_method_late c d b rfl (thn (q pins s σ H _ I h) λv s1 ⟨x,H1,j,g,ty,m⟩=>?_);obtain⟨h1,u⟩:=zng j g ty;refine⟨T,id,n,slot,f,h1,u,?_⟩;have i:=ha cpos pins s1 σ H1 _ j m;rw[p]at i ⊢;refine ZX (by show (false || (backTo cpos (starEach es X.env)).any (·.1))=false;rw[a]<;>rfl) (Calls.evalArgs_plain ?_);exact thn i λus s2 ⟨vs,y,w,k,l⟩=>hm pins s2 σ y x vs v us Q w g k l
end
def MtM (X:Cx) (id:String) (r:V->List V->Hp->VK->Prop):Prop :=
  ∀ (pins:List (Addr × Obj)) (s:Shared) (σ:St) (H:Hp) (x:V) (xs:List V) (v:Value) (us:List Value) (Q:VK),Inv X pins σ H s->RelV x v->Vals xs us->r x xs H Q ->
    wpAny (model X.prog X.w) X.A (call (.builtin id) (v::us)) (EP X pins σ Q) X.xe s
theorem Vals.one:∀ {x:V}{us:List Value},Vals [x] us->∃ u,us=[u]/\RelV x u
  | _,_,.cons r .nil=>⟨_,rfl,r⟩
theorem Vals.two:∀ {x y:V}{us:List Value},Vals [x,y] us->∃ u v,us=[u,v]/\RelV x u/\RelV y v
  | _,_,_,.cons r (.cons q .nil)=>⟨_,_,rfl,r,q⟩
theorem Vals.eraseIdx:∀ {xs:List V}{us:List Value}(i:Nat),Vals xs us->Vals (xs.eraseIdx i) (us.eraseIdx i)
  | _,_,_,.nil=>.nil
  | _,_,0,.cons _ t=>t
  | _,_,i+1,.cons r t=>.cons r (Vals.eraseIdx i t)
theorem Vals.rep {xs:List V}{us:List Value}(h:Vals xs us):∀ k:Nat,Vals (List.replicate k xs).flatten (List.replicate k us).flatten
  | 0=>.nil
  | k+1=>by
    rw[Y5,Y5,WB,WB];exact Vals.append h (Vals.rep h k)
theorem ze6 {α:Type}:∀ (l:List α) (i:Nat),(l.eraseIdx i).length<=l.length
  | [],_=>Jg _
  | _::_,0=>Nat.le_succ _
  | _::r,i+1=>Nat.succ_le_succ (ze6 r i)
theorem zfe (its:List Value):∀ (k:Nat) (acc:List Value),
    List.foldl (λb a=>b++a) acc.toArray (List.replicate k its.toArray)=(acc++(List.replicate k its).flatten).toArray
  | 0,acc=>by simp
  | k+1,acc=>by
    have e:acc.toArray++its.toArray=(acc++its).toArray:=by simp
    have e2:(acc++its)++(List.replicate k its).flatten=acc++(List.replicate (k+1) its).flatten:=by
      rw[Y5,WB,JY]
    rw[<- e2,<- zfe its k (acc++its),<- e,Y5,ZQ]
section
variable {X:Cx}{pins:List (Addr × Obj)}{σ:St}{H:Hp}{s:Shared}{l:Addr}{xs ys:List V}
theorem Inv.lset {its its':List Value}{n:Nat}{f:Array Value->Array Value}{t':Nat}(I:Inv X pins σ H s) (d:H l=some (.lst xs))
    (e:s.heap.get? l=some { cls:=.type "list",data:=.seq its.toArray n }) (c:f its.toArray=its'.toArray) (a:Vals ys its') (hz:ys.length<=sizeLine) :
    Inv X pins σ (upd H l (.lst ys)) { s with heap:=s.heap.update l (Obj.mapSeq f),toks:=t' }:=by
  have q:=PySem.IsL.update e f;rw[c]at q;refine I.write (x:=l) (e:=l) (by rw[d];exact trivial) (.inl rfl) (λg u hb b=>(JZ s.heap (Obj.mapSeq f) (Ne.symm hb)).trans b) ⟨_,q⟩ ?_;exact⟨hz,its',_,a,q⟩
theorem Inv.lnew {its:List Value}{t':Nat}(I:Inv X pins σ H s) (a:Vals ys its) (hz:ys.length<=sizeLine) :
    Inv X pins σ (upd H s.heap.objs.size (.lst ys)) { s with heap:=s.heap.push { cls:=.type "list",data:=.seq its.toArray },toks:=t' } :=
  I.laid (λ_ _ q=>J8 _ q) (Jg _) ⟨hz,its,0,a,Jt _ rfl⟩
theorem Inv.fresh (I:Inv X pins σ H s):H s.heap.objs.size=none:=I.hok.fresh (Jg _)
theorem Inv.lstM (I:Inv X pins σ H s) (a:H l=some (.lst xs)):xs.length<=sizeLine/\∃ (its:List Value) (n:Nat),Vals xs its/\xs.length=its.length/\s.heap.get? l=some { cls:=.type "list",data:=.seq its.toArray n }:=by
  obtain⟨z,its,n,r,e⟩:=I.hok l _ a;exact⟨z,its,n,r,r.length,e⟩
theorem zgI {n:Nat}(h:n<=sizeLine):Builtin.List.listTooLong n=false:=by
  unfold Builtin.List.listTooLong;exact Jv (by omega)
end
section
variable {X:Cx}
def rAppend:V->List V->Hp->VK->Prop:=λx vs H Q=>∃ l xs y,x=.ref l/\vs=[y]/\H l=some (.lst xs)/\xs.length<sizeLine/\Q .non (upd H l (.lst (xs++[y])))
theorem zaW:MtM X "list.append" rAppend:=by
  intro pins s σ H x vs v us Q I b c h;obtain⟨l,xs,y,rfl,rfl,a,hz,q⟩:=h;cases b;obtain⟨u,rfl,d⟩:=c.one;obtain⟨z,its,n,r,f,e⟩:=I.lstM a;refine Wu F.slot_list_append ⟨_,e,rfl⟩ F.entry_list_append (F.args_list_append_2 _ _) (PySem.list_append l its.toArray n u (by rw[Jj];omega)) ⟨e,?_⟩;refine⟨.non,_,I.lset (its':=its++[u]) a e (by simp) (r.append (.cons d .nil)) ?_,rfl,q⟩;rw[Jn,List.length_singleton];omega
def rExtend:V->List V->Hp->VK->Prop:=λx vs H Q=>∃ l b xs zs,x=.ref l/\vs=[.ref b]/\H l=some (.lst xs)/\H b=some (.lst zs)/\xs.length+zs.length<=sizeLine/\Q .non (upd H l (.lst (xs++zs)))
theorem ze0:MtM X "list.extend" rExtend:=by
  intro pins s σ H x vs v us Q I f g h;obtain⟨l,b,xs,zs,rfl,rfl,d,k,hz,q⟩:=h;cases f;obtain⟨u,rfl,i⟩:=g.one;cases i;obtain⟨z,its,n,r,o,e⟩:=I.lstM d;obtain⟨z2,a,n2,j,m,e2⟩:=I.lstM k;have hsz:its.toArray.size+a.toArray.size<=sizeLine:=by rw[Jj,Jj];omega
  have c:¬(!its.toArray.isEmpty && Builtin.List.listTooLong (its.toArray.size+a.toArray.size))=true:=by
    rw[zgI hsz,Bool.and_false];exact Jq
  refine Wu F.slot_list_extend ⟨_,e,rfl⟩ F.entry_list_extend (F.args_list_extend_2 _ _)
    (AutoSeq1.list_extend_list_list_0 l its.toArray n b a.toArray n2 c (by rw[Jj];omega) (by omega)) ⟨e,e2,?_⟩
  refine⟨.non,_,I.lset (its':=its++a) d e (by simp) (r.append j) ?_,rfl,q⟩;rw[Jn];omega
def rPopAt:V->List V->Hp->VK->Prop:=λx vs H Q=>∃ l xs i k y,x=.ref l/\vs=[.int i]/\H l=some (.lst xs)/\-(2 ^ 63)<=i/\i<2 ^ 63/\seqIndex? i xs.length=some k/\xs[k]?=some y/\Q y (upd H l (.lst (xs.eraseIdx k)))
theorem zkR:MtM X "list.pop" rPopAt:=by
  intro pins s σ H x vs v us Q I c d h;obtain⟨l,xs,i,k,y,rfl,rfl,b,h1,p,o,g,q⟩:=h;cases c;obtain⟨u,rfl,f⟩:=d.one;obtain⟨t,rfl⟩:=f;obtain⟨z,its,n,r,m,e⟩:=I.lstM b;obtain⟨w,j,a⟩:=r.get g
  refine Wu F.slot_list_pop ⟨_,e,rfl⟩ F.entry_list_pop (F.args_list_pop_2 _ _)
    (MeetsSeq.list_pop_at l its.toArray n i t k w (fitsIndex_both h1 p) (by rw[Jj,<- m];exact o) (by rw[<- Yi];exact j) (by rw[Jj];omega)) ⟨e,?_⟩
  refine⟨y,_,I.lset (its':=its.eraseIdx k) b e ?_ (r.eraseIdx k) ?_,a,q⟩
  · show its.toArray.eraseIdxIfInBounds k=(its.eraseIdx k).toArray
    rw[List.eraseIdxIfInBounds_toArray]
  · have:=ze6 xs k
    omega
def rCat:R2:=λx y H Q=>∃ l b xs zs,x=.ref l/\y=.ref b/\H l=some (.lst xs)/\H b=some (.lst zs)/\xs.length+zs.length<=sizeLine/\∀ p,H p=none->Q (.ref p) (upd H p (.lst (xs++zs)))
theorem zgF:OpR X (binaryOp .Add) rCat:=by
  intro pins s σ H x y v u Q I d c h;obtain⟨l,b,xs,zs,rfl,rfl,g,i,hz,q⟩:=h;cases d;cases c;obtain⟨z,its,n,r,m,e⟩:=I.lstM g;obtain⟨z2,a,n2,f,k,e2⟩:=I.lstM i;refine PySem.P.add_list e e2 ?_ (by rw[Jj,Jj];omega);have j:its.toArray++a.toArray=(its++a).toArray:=by simp
  rw[j];exact⟨.ref _,_,I.lnew (t':=s.toks) (r.append f) (by rw[Jn];omega),rfl,q _ I.fresh⟩
def rRep:R2:=λx y H Q=>∃ l k xs,x=.ref l/\y=.int k/\H l=some (.lst xs)/\-(2 ^ 63)<=k/\k<2 ^ 63/\xs.length*k.toNat<=sizeLine /\
  ∀ p,H p=none->Q (.ref p) (upd H p (.lst (List.replicate k.toNat xs).flatten))
theorem zmQ {α:Type}(xs:List α) (k:Nat):(List.replicate k xs).flatten.length=k*xs.length:=by
  induction k with
  | zero=>simp
  | succ k ih=>rw[Y5,WB,Jn,ih,Nat.succ_mul,Nat.add_comm]
theorem zny:OpR X (binaryOp .Mult) rRep:=by
  intro pins s σ H x y v u Q I o j h;obtain⟨l,k,xs,rfl,rfl,w,h1,A,hz,q⟩:=h;cases o;obtain⟨t,rfl⟩:=j;obtain⟨z,its,n,r,p,e⟩:=I.lstM w;have hlen:its.toArray.size*k.toNat<=sizeLine:=by rw[Jj,<- p];exact hz
  have f:¬ its.toArray.size*k.toNat > (2 ^ 63-1) / 8:=by
    have:(sizeLine:Nat)<=(2 ^ 63-1) / 8:=by decide
    omega
  have d:¬(!Builtin.List.listFitsIndex k)=true:=by
    rw[fitsIndex_both h1 A];exact Jq
  have b:¬ Builtin.List.listTooLong (its.toArray.size*k.toNat)=true:=by
    rw[zgI hlen];exact Jq
  have c:List.foldl (λi g=>i++g) #[] (List.replicate (if its.toArray.isEmpty=true then 0 else k.toNat) its.toArray)=(List.replicate k.toNat its).flatten.toArray:=by
    have B:∀ m:Nat,List.foldl (λi g=>i++g) #[] (List.replicate m its.toArray)=(List.replicate m its).flatten.toArray:=λm=>by
      have:=zfe its m [];rw[Zy]at this;exact this
    rw[B]
    cases its with
    | nil=>simp
    | cons a C=>rw[Ja (by simp)]
  refine wpAny_binaryOp_repeat_ref (T:="list") (U:="int") (by decide) ⟨_,e,rfl⟩ (λs'=>typeIs_int s' k t) noFill_list_mul F.fills_int_mul F.slot_int_rmul repeat_list F.slot_int_index.lookup
    (Wu F.slot_int_rmul (typeIs_int s k t) F.entry_int_rmul (F.args_int_rmul_2 _ _) (int___rmul___int_list k t l its.toArray n)
      ⟨e,rfl,⟨_,e,rfl⟩,Wu F.slot_list_mul ⟨_,e,rfl⟩ F.entry_list_mul (F.args_list_mul_2 _ _) (AutoListH.list___mul___list_int_3 l its.toArray n k t d f b) ⟨e,?_⟩⟩)
  rw[c];exact⟨.ref _,_,I.lnew (t':=s.toks) (r.rep k.toNat) (by rw[zmQ,Nat.mul_comm];exact hz),rfl,q _ I.fresh⟩
end
end L2
namespace Att
open PySem PySem.W PySem.Calls PyProof.Rows
theorem zdj {P:Params}{h:Heap}:∀ (ns:List Int) (vs:List Value),WellAll P h vs (ns.map WData.int)->IntsAre vs ns:=by
  intro ns
  induction ns with
  | nil =>
    intro vs w;rw[List.map_nil]at w;cases w
    exact .nil
  | cons n ns ih =>
    intro vs w;rw[Y6]at w
    cases w with
    | cons a b =>
      cases a;exact .cons _ _ (ih _ b)
theorem zin {l:OpenLaw}{n:Nat}(hn:l.most=some n) {P:Params}{h:Heap}{args:List WData}{vals:List Value}
    (b:l.row.toRowW.claim.pre args=true) (g:WellAll P h vals args) :
    ∃ a vs ns,vals=[Value.ref a]/\args=[WData.list (ns.map WData.int)]/\h.get? a=some { cls:=.type "list",data:=.seq vs.toArray }/\IntsAre vs ns/\ns.length<=n:=by
  have i:WShape.hasAll [] args [.list .int]=true:=(pre_splitW b).1;have j:l.pre.holds [] { args:=args }=true:=(pre_splitW b).2;obtain⟨d,r,rfl,h1,t⟩:=hasAllW_cons i;obtain rfl:=hasAllW_nil t;obtain⟨xs,rfl,s⟩:=hasW_list h1;obtain⟨ns,rfl⟩:=items_int s
  have hlen:ns.length<=n:=by
    unfold OpenLaw.pre at j
    have f:(WTm.not (.lt (.lit (.int (n:Int))) (.len (.arg 0)))).holds [] { args:=[.list (ns.map .int)] }=true:=by
      have f:=(holds_andW j).1;rw[hn]at f;exact f
    have e:=condW_of f (w_not (w_lt w_lit (w_len_list (w_arg rfl))));rw[Jm]at e;refine Nat.le_of_not_lt λq=>?_;have o:(n:Int)<((ns.length:Nat):Int):=by omega
    first
      | (rw[JG o]at e;exact absurd e (by decide))
      | (simp at e;omega)
  cases g with
  | cons m k =>
    cases k
    cases m with
    | list p c=>exact⟨_,_,ns,rfl,rfl,p,zdj ns _ c,hlen⟩
theorem ziz (l:OpenLaw) (args:List WData):l.row.toRowW.claim.post args (.bool true) args=true :=
  postW_of (r:=l.row.toRowW) (X:=(true == true))
    (show WShape.has [] (.bool true) .bool=true by first|rfl|decide|simp[WShape.has,WShape.arms,WShape.armsAll])
    (show (WTm.eq .res (.lit (.bool true))).value [] { args:=args,res:=some (.bool true),after:=args }=some (.bool (true == true)) from w_eq_bool (w_res rfl) w_lit) rfl
theorem attach_call {l:OpenLaw}{n:Nat}{q:Program}{loose:List Str}{s:(Str->Option Value)->Heap->Prop}{p:World->Heap->Prop}{d:DefRec}
    (hn:l.most=some n) (j:d.params.defaults=[])
    (call:∀ (w:World) (s₀ b:Shared) (mg mb:Str->Option Value) (c:Addr) (o:Obj) (pm cd doc:Value) (a:Addr) (vs:List Value) (ns:List Int),
      Ground q loose [] s w s₀ mg mb b.heap->p w b.heap ->
      b.heap.get? c=some o->o.data=.func (docDef d.name d.params d.body d.scope pm cd doc)->b.heap.CodeRec cd d.name->mg d.name=some (.ref c) ->
      b.heap.get? a=some { cls:=.type "list",data:=.seq vs.toArray }->IntsAre vs ns->ns.length<=n->b.gens = #[] ->
      codeAny (model l.prog w) callerA (.call (.ref c) ⟨[.ref a],[]⟩) (λr s'=>r=.ok (.ret (.bool true))/\OldK b.heap s'.heap/\s'.os=b.os/\AllBare s'.gens) b) :
    WalkO q loose s p l.row.toRowW d [] (λf vs=>PySem.call f vs):=by
  intro w s₀ b mg mb G Y c o pm cd doc B kV v hd k m i x args vals as e t C h D;obtain rfl:B=.none:=Dflts.none m j;obtain rfl:kV=.none:=Dflts.noKw m;obtain⟨a,vs,ns,rfl,rfl,g,hints,hlen⟩:=zin hn e h;refine enter_call (codeAny_mono (call w s₀ b mg mb c o pm cd doc a vs ns G Y v (fd_plain hd) k i g hints hlen x) λr s' u=>?_);obtain⟨rfl,A,z,y⟩:=u;exact⟨.inl ⟨.bool true,.bool true,[],rfl,λ_=>rfl,.bool true,ziz l _,λ_=>⟨List.Pairwise.nil,λ_ hm=>(nomatch hm)⟩⟩,A,z,y⟩
section
def zoF (h:Heap) (L d:Addr):List (Addr × Obj):=(List.range h.objs.size).filterMap λa=>if a=L\/a=d then none else (h.get? a).map λo=>(a,o)
end
end Att
namespace L2
open PySem PySem.Spec PyProof.Rows
theorem zeG:∀ {vs:List Value}{ns:List Int},IntsAre vs ns->Vals (ns.map V.int) vs
  | _,_,.nil=>.nil
  | _,_,.cons n t h=>.cons ⟨t,rfl⟩ (zeG h)
abbrev KOf {K:PySem.W.Frag}{h:Heap}(_:K.In h):PySem.W.Frag:=K
def zbI (s:Stmt):Arguments:=match s with
  | .FunctionDef _ a _ _ _ _ _ _ _ _=>a
  | _=>{ posonlyargs:=[],args:=[],vararg:=none,kwonlyargs:=[],kw_defaults:=[],kwarg:=none,defaults:=[] }
def zbb (s:Stmt):List Stmt:=match s with
  | .FunctionDef _ _ b _ _ _ _ _ _ _=>b
  | _=>[]
def zaj (s:Stmt):Scope:=match s with
  | .FunctionDef _ _ _ _ _ _ sc _ _ _=>sc
  | _=>{ kind:=.function,names:=[],isGenerator:=false,isCoroutine:=false }
abbrev CX0:CXT:=λ_ _ _ _ _ _=>False
abbrev E0:XK:=λ_ _ _=>False
theorem zaw {X:Cx}:Passes CX0 X E0:=λ_ _ _ _ _ _ _ h=>h.elim
structure Fun (K:PySem.W.Frag) (x qual:Str) (st:Stmt) (f:Addr) (fd:FuncData):Prop where
  ex:∃ (oc:Value) (od:Option Addr) (kV doc pm:Value) (an:Option Addr) (cdv ct:Value) (osl:Array (Option Value)),
    fd=PySem.W.fnOf x qual (zbI st) (zbb st) (zaj st) .none kV doc pm an cdv ct/\K.lookup f=some ⟨oc,od,.func fd,osl⟩/\PySem.W.codeIn K cdv qual=true
  kp:PySem.W.keepIn K (.ref f)=true
section
variable {P:Program}{w:World}{K:PySem.W.Frag}{mg:Str->Option Value}{base:Heap}
theorem Fun.ok {x qual:Str}{st:Stmt}{f:Addr}{fd:FuncData}{N ps:List Str}{k:Nat}{sp:Sp}(F:Fun K x qual st f fd) (S:FnScope N ps (zaj st)) (len:∀ vs H Q E,sp vs H Q E->vs.length=ps.length)
    (a:∀ (cdv:Value) (A:Around) (outer:List Env) (s:Shared) (H:Hp) (vs:List V) (Q:VK) (E:XK),Room k (A.deeper (envOfC qual (zaj st) s.heap.objs.size f cdv))->sp vs H Q E ->
      ∃ t,PSs (cxOf CX0 P w K mg base N qual (zaj st) f cdv A outer s H E).nox (zbb st) t/\t { nx:=λ_ H'=>Q .non H',rt:=Q } (zdz N vs) H):FnOk P w K mg base CX0 (k+1) f fd ps sp:=by
  obtain⟨oc,od,kV,doc,pm,an,cdv,ct,osl,rfl,d,c⟩:=F.ex;refine zn0 d c S len λA outer s H vs Q E e b=>?_;obtain⟨t,h,q⟩:=a cdv A outer s H vs Q E e b;exact⟨t,h.nox,q⟩
theorem Fun.binds {x qual:Str}{st:Stmt}{f:Addr}{fd:FuncData}{ps:List Str}(F:Fun K x qual st f fd)
    (h:∀ (kV doc pm:Value) (an:Option Addr) (cdv ct:Value) (us:List Value),us.length=ps.length->bindArgs (PySem.W.fnOf x qual (zbI st) (zbb st) (zaj st) .none kV doc pm an cdv ct) ⟨us,[]⟩=pure (ps.zip us)):Binds K fd ps []:=by
  obtain⟨oc,od,kV,doc,pm,an,cdv,ct,osl,rfl,b,a⟩:=F.ex;exact .all (h kV doc pm an cdv ct)
theorem znZ {x qual:Str}{st:Stmt}{f:Addr}{oc:Value}{od an:Option Addr}{osl:Array (Option Value)}{kV doc pm cdv ct:Value}(l:K.lookup f=some ⟨oc,od,.func (PySem.W.fnOf x qual (zbI st) (zbb st) (zaj st) .none kV doc pm an cdv ct),osl⟩)
    (c:PySem.W.codeIn K cdv qual=true) (k:PySem.W.keepIn K (.ref f)=true):Fun K x qual st f (PySem.W.fnOf x qual (zbI st) (zbb st) (zaj st) .none kV doc pm an cdv ct):=⟨⟨oc,od,kV,doc,pm,an,cdv,ct,osl,rfl,l,c⟩,k⟩
end
section
variable {X:Cx}
theorem pv (i:Nat) {x:Str}{pos:Pos}(c:X.N[i]?=some x:=by rfl) (b:Vis X.env.scope x:=by first|exact Or.inl rfl|exact Or.inr (.inl rfl)|exact Or.inr (.inr rfl)) (hd:(x == ("__debug__":Str))=false:=by decide)
    (a:(x == ("__classdict__":Str))=false:=by decide):PE X (.Name x pos) (tVar i):=znw c b hd a
theorem qv (i:Nat) {x:Str}{pos:Pos}(h:X.N[i]?=some x/\Vis X.env.scope x/\(x == ("__debug__":Str))=false/\(x == ("__classdict__":Str))=false):PE X (.Name x pos) (tVar i):=znw h.1 h.2.1 h.2.2.1 h.2.2.2
end
theorem iteF {A B:Prop}(h:B):if false=true then A else B:=by
  rw[Ja Jq];exact h
theorem iteT {A B:Prop}(h:A):if true=true then A else B:=by
  rw[Jf rfl];exact h
theorem ite2 {c A B:Prop} [Decidable c] (h1:c->A) (a:¬ c->B):if c then A else B:=by
  by_cases h:c
  · rw[Jf h]
    exact h1 h
  · rw[Ja h]
    exact a h
def Same (H H':Hp):Prop:=∀ b o,H b=some o->H' b=some o
theorem Same.refl (H:Hp):Same H H:=λ_ _ h=>h
theorem Same.trans {H H1 d:Hp}(a:Same H H1) (b:Same H1 d):Same H d:=λc o h=>b c o (a c o h)
end L2
set_option maxHeartbeats 4000001
namespace L2
open PySem PySem.Spec PyProof.Rows
def clOf (cells:List (Str × Addr)):List (Str × NameKind)->List (Str × Addr)->List (Str × Addr)
 | [],cs=>cs
 | (n,k)::r,cs=>if k == .free then clOf cells r ((n,(cells.lookup n).getD 0)::cs) else clOf cells r cs
theorem zeB {env:Env}:∀ (names:List (Str × NameKind)) (cs:List (Str × Addr)),(∀ y∈names,y.2=.free->∃ c,env.cells.lookup y.1=some c) ->
  (forIn names cs λx r=>match x with|(name,kind)=>if (kind == NameKind.free)=true then (do let a <- cellOf env name;pure (ForInStep.yield ((name,a)::r))) else pure (ForInStep.yield r):Sem (List (Str × Addr)))=pure (clOf env.cells names cs)
 | [],cs,_=>rfl
 | (n,k)::r,cs,h=>by
  rw[Yy];by_cases e:(k == NameKind.free)=true
  ·obtain⟨c,g⟩:=h (n,k) JC (by simpa using e)
   have d:cellOf env n=pure c:=by
    have b:env.cells.lookup n=some c:=g;unfold cellOf;rw[b]
   simp only[e,Yv,d,pure_bind];rw[zeB r _ λy f=>h y (JB _ f)];have b:env.cells.lookup n=some c:=g;show _=pure (if (k == NameKind.free)=true then _ else _);rw[Jf e,b];rfl
  ·have i:(k == NameKind.free)=false:=by simpa using e
   simp only[i,Yb,Zb,pure_bind];rw[zeB r _ λy f=>h y (JB _ f)];show _=pure (if (k == NameKind.free)=true then _ else _);rw[Ja e]
theorem zdX {scope:Scope}{env:Env}(h:∀ y∈scope.names,y.2=.free->∃ c,env.cells.lookup y.1=some c):closureFor scope env=pure (clOf env.cells scope.names []):=by
 unfold closureFor;show (forIn scope.names [] _ >>= λr=>pure r)=_;rw[bind_pure];exact zeB _ _ h
theorem zcX {cells:List (Str × Addr)}:∀ (names:List (Str × NameKind)) (cs:List (Str × Addr)) (x:Str) (c:Addr),(∀ y∈names,y.2=.free->∃ c,cells.lookup y.1=some c) ->
  (∀ x c,cs.lookup x=some c->cells.lookup x=some c)->(clOf cells names cs).lookup x=some c->cells.lookup x=some c
 | [],cs,x,c,_,f,e=>f x c e
 | (n,k)::r,cs,x,c,h,f,e=>by
  unfold clOf at e;by_cases q:(k == NameKind.free)=true
  ·rw[Jf q]at e
   obtain⟨c0,l⟩:=h (n,k) JC (by simpa using q);refine zcX r _ x c (λy g=>h y (JB _ g)) (λd m a=>?_) e;rw[YF]at a
   cases i:d == n with
   | true =>
    rw[i]at a;have j:d=n:=by simpa using i
    subst j;have b:cells.lookup d=some c0:=l;rw[b]at a ⊢
    exact a
   | false =>
    rw[i]at a;exact f d m a
  ·rw[Ja q]at e
   exact zcX r _ x c (λy g=>h y (JB _ g)) f e
theorem zdy {cells:List (Str × Addr)}:∀ (names:List (Str × NameKind)) (cs:List (Str × Addr)) (x:Str),(∃ c,cs.lookup x=some c)->∃ c,(clOf cells names cs).lookup x=some c
 | [],cs,x,e=>e
 | (n,k)::r,cs,x,e=>by
  unfold clOf;by_cases q:(k == NameKind.free)=true
  ·rw[Jf q]
   refine zdy r _ x ?_;rw[YF]
   cases a:x == n with
   | true=>exact⟨_,rfl⟩
   | false=>exact e
  ·rw[Ja q]
   exact zdy r _ x e
theorem zb0 {cells:List (Str × Addr)}:∀ (names:List (Str × NameKind)) (cs:List (Str × Addr)) (x:Str),names.lookup x=some .free->∃ c,(clOf cells names cs).lookup x=some c
 | [],cs,x,e=>by simp at e
 | (n,k)::r,cs,x,e=>by
  rw[YF]at e;unfold clOf
  cases a:x == n with
  | true =>
   rw[a]at e;have b:k=.free:=Js e;subst b;rw[Jf (by decide)];refine zdy r _ x ?_;rw[YF,a]
   exact⟨_,rfl⟩
  | false =>
   rw[a]at e;by_cases q:(k == NameKind.free)=true
   ·rw[Jf q];exact zb0 r _ x e
   ·rw[Ja q];exact zb0 r _ x e
def zlH (env:Env) (p:Str × NameKind):Bool:=p.2 == .free && env.scope.kind == .function && env.kindOf p.1 == some .cell
def zcH (env:Env) (p:Str × NameKind):Str × NameKind:=if zlH env p=true then (p.1,.cell) else p
theorem zdl (env:Env) (p:Str × NameKind):(zcH env p).1=p.1:=by unfold zcH;split<;>rfl
theorem zdk (env:Env) (p:Str × NameKind):(zcH env p).2=p.2\/((zcH env p).2=.cell/\p.2=.free):=by
 unfold zcH;split
 ·rename_i h
  refine .inr ⟨rfl,?_⟩;unfold zlH at h;cases e:p.2<;>simp[e]at h<;>rfl
 ·exact .inl rfl
theorem zcf (scope:Scope) (env:Env):(relabel scope env).names=scope.names.map (zcH env):=rfl
theorem zer {f:Str × NameKind->Str × NameKind}(a:∀ p,(f p).1=p.1):∀ (l:List (Str × NameKind)) (x:Str),(l.map f).lookup x=none/\l.lookup x=none\/∃ p∈l,(l.map f).lookup x=some (f p).2/\l.lookup x=some p.2
 | [],_=>.inl ⟨rfl,rfl⟩
 | p::r,x=>by
  have c:((p::r).map f).lookup x=if x == p.1 then some (f p).2 else (r.map f).lookup x:=by
   show List.lookup x (((f p).1,(f p).2)::r.map f)=_;rw[YF,a p];cases x == p.1<;>rfl
  have e2:(p::r).lookup x=if x == p.1 then some p.2 else r.lookup x:=by
   show List.lookup x ((p.1,p.2)::r)=_;rw[YF];cases x == p.1<;>rfl
  rw[c,e2];cases x == p.1
  ·rcases zer a r x with z|⟨q,b,z⟩
   ·exact .inl z
   ·exact .inr ⟨q,JB _ b,z⟩
  ·exact .inr ⟨p,JC,rfl,rfl⟩
theorem zbm {scope:Scope}{env:Env}{x:Str}{a:NameKind}(h:(relabel scope env).names.lookup x=some a):scope.names.lookup x=some a\/(a=.cell/\scope.names.lookup x=some .free):=by
 rw[zcf]at h;rcases zer (zdl env) scope.names x with ⟨z,_⟩|⟨p,_,z,e⟩
 ·rw[z]at h;cases h
 ·rw[z]at h
  obtain rfl:=Js h;rcases zdk env p with q|⟨q,b⟩
  ·rw[q];exact .inl e
  ·exact .inr ⟨q,by rw[e,b]⟩
theorem zcJ {scope:Scope}{env:Env}{x:Str}(h:scope.names.lookup x=some .free):(relabel scope env).names.lookup x=some .cell\/(relabel scope env).names.lookup x=some .free:=by
 rw[zcf];rcases zer (zdl env) scope.names x with ⟨_,z⟩|⟨p,_,z,e⟩
 ·rw[z]at h;cases h
 ·rw[e]at h
  rcases zdk env p with q|⟨q,_⟩
  ·rw[z,q,h];exact .inr rfl
  ·rw[z,q];exact .inl rfl
def za4 (X:Cx) (N':List Str) (scope:Scope) (C:Addr) (s₀:Shared) (H₀:Hp) (fp:List Addr) (pins:List (Addr × Obj)):Cx :=
 { X with N:=N',s₀:=s₀,H₀:=H₀,env:=compEnvC scope (clOf X.env.cells scope.names []) C X.env,outer:=X.stack,stack:=X.stack,ex:=fp,fn:=λ_=>false,pn:=X.pn++pins,xe:=λ_ _=>False }
def capσ (cap:List (Option Nat)) (σ:St):St:=cap.map λo=>match o with|some i=>(match σ[i]? with|some v=>v|none=>none)|none=>none
def tst (M:Model) (A:Around) (env:Env) (E:Value->Shared->Prop) (o:Option Expr) (Q:Bool->Shared->Prop) (s:Shared):Prop:=match o with
 | none=>Q true s
 | some c=>wpAny M A (isTrue c env (eval c env)) Q E s
theorem zgt {M:Model}{A:Around}{env:Env}{E:Value->Shared->Prop}{o:Option Expr}{Q a:Bool->Shared->Prop}{s:Shared}(h:tst M A env E o Q s) (k:∀ b z,Q b z->a b z):tst M A env E o a s:=by
 cases o with
 | none=>exact k _ _ h
 | some c=>exact thn h k
def PTo (X:Cx) (o:Option Expr) (t:TT):Prop :=
 ∀ (pins:List (Addr × Obj)) (s:Shared) (σ:St) (H:Hp) (Q:Bool->Hp->Prop),Inv X pins σ H s->t σ H Q->tst (model X.prog X.w) X.A X.env X.xe o (TP X pins σ Q) s
def tYes:TT:=λ_ H Q=>Q true H
theorem zbu {X:Cx}:PTo X none tYes:=λ_ _ _ H _ I h=>⟨H,I,h⟩
abbrev NoX:Value->Shared->Prop:=λ_ _=>False
def Go (M:Model) (A:Around) (tg elt:Expr) (o:Option Expr) (it acc:Value) (env:Env) (R:Result->Shared->Prop) (g:Shared->Prop) (s:Shared):Prop :=
 wpAny M A (pyNext it) (λr a=>match r with
  | none=>R (.ok .next) a
  | some v=>wpAny M A (letOwnedTupleGo tg it v) (λ_ b=>wpAny M A (assign tg env v) (λ_ c=>tst M A env NoX o (λyes d =>
    if yes=true then wpAny M A (eval elt env) (λx e=>wpAny M A (call (.builtin "list.append") [acc,x]) (λ_ f=>g f) NoX e) NoX d else g d) c) NoX b) NoX a) NoX s
theorem zjN {prog:Program}{w:World}{A:Around}{R:Result->Shared->Prop}{s:Shared}{elt tg iter:Expr}{o:Option Expr}{scope:Scope}{pos:Pos}{it acc:Value}{env:Env}(J:Nat->Shared->Prop)
  (turn:∀ n s,J n s->Go (model prog w) A tg elt o it acc env R (λz=>∃ m,m<n/\J m z) s) (n:Nat) (h:J n s) :
  codeAny (model prog w) A (.compLoop (.ListComp elt [⟨tg,iter,o.toList,0⟩] scope pos) 0 it acc env) R s:=by
 cases o with
 | none =>
  refine PySem.W.kcp_loop J (λn a ha=>JU (turn n a ha) (λr b hb=>?_) λ_ _ z=>z.elim) n h
  cases r with
  | none=>exact hb
  | some v=>exact JU hb (λ_ c i=>JU i (λ_ d hd=>JU (show wpAny _ _ _ _ _ d from hd) (λx e g=>JU g (λ_ _ q=>q) λ_ _ z=>z.elim) λ_ _ z=>z.elim) λ_ _ z=>z.elim) λ_ _ z=>z.elim
 | some t =>
  refine PySem.W.kct_loop J (λn a ha=>JU (turn n a ha) (λr b hb=>?_) λ_ _ z=>z.elim) n h
  cases r with
  | none=>exact hb
  | some v =>
   refine JU hb (λ_ c i=>JU i (λ_ d hd=>JU (show wpAny _ _ _ _ _ d from hd) (λyes e g=>?_) λ_ _ z=>z.elim) λ_ _ z=>z.elim) λ_ _ z=>z.elim;cases yes
   ·exact g
   ·exact JU (show wpAny _ _ _ _ _ e from g) (λx f j=>JU j (λ_ _ q=>q) λ_ _ z=>z.elim) λ_ _ z=>z.elim
structure CapOk (N N':List Str) (sc scope:Scope) (cap:List (Option Nat)):Prop where
 kind:scope.kind=.function
 nocell:∀ y∈scope.names,y.2≠.cell
 names:∀ y∈scope.names,y.2=.local -> scope.names.lookup y.1=some .local
 free:∀ y∈scope.names,y.2=.free->sc.names.lookup y.1=some .cell\/sc.names.lookup y.1=some .free
 len:cap.length=N'.length
 cap:∀ p∈N'.zip cap,∀ i,p.2=some i->N[i]?=some p.1/\scope.names.lookup p.1=some .free/\(sc.names.lookup p.1=some .cell\/sc.names.lookup p.1=some .free)
theorem zcF {α:Type}:∀ {l:List (Str × α)}{x:Str}{a:α},l.lookup x=some a->(x,a)∈l
 | [],_,_,h=>by simp at h
 | (n,k)::r,x,a,h=>by
  rw[YF]at h
  cases b:x == n with
  | true =>
   rw[b]at h;have e:k=a:=Js h;have e2:x=n:=by simpa using b
   subst e e2
   exact JC
  | false=>rw[b]at h;exact JB _ (zcF h)
def LCW (J:It) (g:TG) (tt:TT) (te:TE) (l:Addr) (Q:VK) (W:Nat->Nat->List V->St->Hp->Prop):Prop :=
 ∀ i m acc d H',W i m acc d H'->H' l=some (.lst acc) /\
  ((J.stop i H'/\Q (.ref l) H')\/(J.go i H'/\∀ x h,J.yld i H' x h->g x d h λa j=>tt a j λb f =>
   if b=true then te a f λy e=>e l=some (.lst acc)/\acc.length<sizeLine/\∃ c,c<m/\W (i+1) c (acc++[y]) a (upd e l (.lst (acc++[y])))
   else ∃ c,c<m/\W (i+1) c acc a f))
def tLC (cap:List (Option Nat)) (a:TI) (g:TG) (tt:TT) (te:TE):TE:=λσ H Q=>a σ H λJ H1=>∀ l,H1 l=none ->
 ∃ W:Nat->Nat->List V->St->Hp->Prop,(∃ m,W 0 m [] (capσ cap σ) (upd H1 l (.lst [])))/\LCW J g tt te l Q W
theorem zmS {X:Cx}{elt tg iter:Expr}{o:Option Expr}{scope:Scope}{pos aa:Pos}{wi:TI}{g:TG}{tt:TT}{te:TE}{N':List Str}{cap:List (Option Nat)}{use:Option (Value->Sem Unit)}{Q0:Value->Shared->Prop}
  (hc:X.calm=true) (hi:PI X tg iter wi) (K:CapOk X.N N' X.env.scope scope cap)
  (hg:∀ C s₀ H₀ fp pins,PG (za4 X N' scope C s₀ H₀ fp pins) tg g)
  (ht:∀ C s₀ H₀ fp pins,PTo (za4 X N' scope C s₀ H₀ fp pins) o tt)
  (he:∀ C s₀ H₀ fp pins,PE (za4 X N' scope C s₀ H₀ fp pins) elt te)
  (hs:∀ x,foldedSetIterable iter X.env x=pure x) {pins:List (Addr × Obj)}{s:Shared}{σ:St}{H:Hp}{Q:VK}(I:Inv X pins σ H s) (h:tLC cap wi g tt te σ H Q)
  (fin:∀ (l C:Addr) (G:Hp) (N:Shared) (m:Str->Option Value),Inv X pins σ G N->Q (.ref l) G->N.heap.Ns C m->FpOk X pins G C->compPost (model X.prog X.w) X.A X.xe use Q0 (.ref l) C (.ok .next) N) :
  wpAny (model X.prog X.w) X.A (comprehension (.ListComp elt [⟨tg,iter,o.toList,0⟩] scope pos) scope X.env aa (newList []) false (eval iter X.env) use) Q0 X.xe s:=by
 have B:∀ y∈scope.names,y.2=.free->∃ c,X.env.cells.lookup y.1=some c:=λy hy hf=>I.ok.has y.1 (K.free y hy hf);refine wpAny_comprehension_free (use:=use) rfl hs (zdX B) K.kind K.names (thn (hi pins s σ H _ I h) λv s1 h1=>thn h1 λaH s2 h2=>?_);obtain⟨it,fp,tn,J,H2,e,I2,T,st2,f2,body⟩:=h2;subst e;have ad:H2 s2.heap.objs.size=none:=I2.hok.fresh (Jg _);obtain⟨W,⟨m0,w0⟩,turn⟩:=body s2.heap.objs.size ad;have f:Inv X pins σ (upd H2 s2.heap.objs.size (.lst [])) { s2 with heap:=s2.heap.push { cls:=.type "list",data:=.seq ([]:List Value).toArray },toks:=s2.toks }:=I2.lnew (its:=[]) (t':=s2.toks) .nil (JS _);refine JQ (wpAny_newFunctionEnv K.nocell (by intro y hy;simp at hy) (λh₁ A w=>?_) K.kind);dsimp only at A w ⊢;generalize hl:s2.heap.objs.size=l at *;generalize hP:s2.heap.push { cls:=.type "list",dict:=none,data:=.seq ([]:List Value).toArray }=P2 at *;generalize ax:upd H2 l (.lst [])=H3 at *;have old:∀ b o,P2.get? b=some o->h₁.get? b=some o:=λb o e=>w.extBut b o (JA (Jc e)) (J8 _ e);have ab:∀ b o,s2.heap.get? b=some o->P2.get? b=some o:=λb o e=>hP ▸ J8 _ e
 have aj:∀ b∈fp,b<l:=λb hb=>by
  obtain⟨o,e,_⟩:=T.obj _ _ st2 b hb;rw[<- hl];exact Jc e
 have az:∀ b∈fp,H3 b=none:=λb hb=>by
  rw[<- ax,zag (JA (aj b hb))];exact(f2 b hb).1
 have aw:P2.objs.size=l+1:=by rw[<- hP,Z4,hl]
 have k:∀ x c,(clOf X.env.cells scope.names []).lookup x=some c->X.env.cells.lookup x=some c:=λx c e=>zcX _ _ x c B (λ_ _ z=>by simp at z) e;generalize ag:({ s2 with heap:=P2,toks:=s2.toks }:Shared)=s3 at *;have a:s3.heap=P2:=by rw[<- ag]
 let Y:=za4 X N' scope P2.objs.size s3 H3 fp pins
 have t:Y.Ok:=by
  refine⟨f.ok.mod,K.kind,f.ok.glob,f.ok.blt,by show s3.heap.objs.size<=P2.objs.size;rw[a];exact Jg _,λx y c e1 e2=>f.ok.inj x y c (k x c e1) (k y c e2),λx O=>?_,λx c O=>absurd (show false=true from O) Jq,f.ok.hd,f.ok.frames,.inl rfl,λb hb=>⟨?_,λx c e=>?_⟩,f.bs,
   JX f.ok.bsz f.sz,λb o e hb=>?_,λb hb hz=>?_,f.stack,f.stkFree⟩
  ·have ap:scope.names.lookup x=some .free:=by
    rcases O with O|O
    ·rcases zbm O with z|z
     ·exact absurd rfl (K.nocell _ (zcF z))
     ·exact z.2
    ·rcases zbm O with z|z
     ·exact z
     ·exact z.2
   exact zb0 _ _ x ap
  ·exact JA (by show b<P2.objs.size;rw[aw];exact ZE (aj b hb))
  ·exact(f2 b hb).2.2.2.2.1 x c (k x c e)
  ·rcases (f2 b hb).2.2.2.1 with z|z
   ·exact f.ok.noex b o e z
   ·exact absurd (JF (Jc e) (JX f.ok.bsz z)) (Yz _)
  ·rcases Jh.mp (f.stkSub b hz) with z|z
   ·exact(f2 b hb).2.1 z
   ·exact(f2 b hb).2.2.1 z
 have av:Inv Y [] (capσ cap σ) H3 { s2 with heap:=h₁,toks:=s2.toks }:=by
  refine⟨t,by show s2.os=s3.os;rw[<- ag],I2.bare,by show Un _ _ _ _ s3.heap h₁;rw[a];exact Un.kept old,⟨_,A,λj x v e1 e2 e3=>?_⟩,λx c e=>?_,?_,λx c e=>f.freeC x c (k x c e),λp hp=>?_,λb o e=>?_,?_⟩
  ·have aC:N'[j]?=some x:=e1
   unfold capσ at e2;rw[JL]at e2
   cases ec:cap[j]? with
   | none=>rw[ec]at e2;cases e2
   | some oc =>
    rw[ec]at e2
    cases oc with
    | none=>cases e2
    | some i =>
     have aA:σ[i]?=some (some v):=by
      cases ei:σ[i]? with
      | none=>simp[ei]at e2
      | some v' =>
       simp[ei]at e2;rw[e2]
     have hz:(x,some i)∈N'.zip cap:=by
      refine JP (i:=j) ?_;rw[Zg];exact⟨aC,ec⟩
     obtain⟨hN,hf,hk⟩:=K.cap _ hz i rfl;obtain⟨m,hn,aq⟩:=f.loc;obtain⟨u,r,lk⟩:=aq i x v hN aA (by rcases hk with z|z;exact .inr (.inl z);exact .inr (.inr z));refine⟨u,r,.inr ⟨?_,?_⟩⟩
     ·exact zcJ hf
     ·rcases lk with ⟨z,_⟩|⟨_,c,au,Z⟩
      ·have z':X.env.scope.names.lookup x=some .local:=z
       rcases hk with q|q
       ·rw[q]at z';cases z'
       ·rw[q]at z';cases z'
      ·obtain⟨c',ah⟩:=zb0 (cells:=X.env.cells) scope.names [] x hf
       have:=k x c' ah;rw[au]at this;cases this;obtain⟨ob,e,d⟩:=Z;rw[a]at e;exact⟨c,ah,ob,old c ob e,d⟩
  ·obtain⟨v,ob,e',d⟩:=f.cell x c (k x c e)
   rw[a]at e';exact⟨v,ob,old c ob e',d⟩
  ·refine f.hok.fresh ?_
   rw[a];exact Jg _
  ·have U:p∈X.pn++pins:=(Jx.mp hp).elim (λz=>z) (λz=>nomatch z)
   obtain⟨e,n,ne,nf,d⟩:=f.pin p U;rw[a]at e;refine⟨old _ _ e,n,JA (Jc e),λz=>?_,d⟩;rcases Jh.mp (f.stkSub _ z) with q|q
   ·exact ne q
   ·exact nf q
  ·have:=f.hok.kept (h':=h₁) (λb u q=>old b u (by rw[<- a];exact q))
   exact this b o e
  ·show (cap.map _).length=N'.length
   rw[Jm,K.len]
 have E:∀ {H':Hp},(∀ b∈fp,H' b=none)->∀ b∈fp,FpOk Y [] H' b:=λ{H'} hn b hb=>by
  refine⟨hn b hb,(t.exf b hb).1,t.exfs b hb,.inl hb,(t.exf b hb).2,λp hp=>?_⟩;have U:p∈X.pn++pins:=(Jx.mp hp).elim (λz=>z) (λz=>nomatch z);exact(f2 b hb).2.2.2.2.2 p U
 have af:tn 0 h₁:=T.keep 0 _ _ st2 λb hb o e=>old b o (ab b o e)
 have loop:codeAny (model X.prog X.w) X.A (.compLoop (.ListComp elt [⟨tg,iter,o.toList,0⟩] scope pos) 0 (.ref it) (.ref l) Y.env) (compPost (model X.prog X.w) X.A X.xe use Q0 (.ref l) P2.objs.size) { s2 with heap:=h₁,toks:=s2.toks }:=by
  refine zjN (λn s'=>∃ i acc D H',Inv Y [] D H' s'/\tn i s'.heap/\(∀ b∈fp,H' b=none)/\W i n acc D H') ?_ m0 ⟨0,[],_,H3,av,af,az,w0⟩;rintro n s4 ⟨i,acc,M,G,I4,ae,ai,w4⟩;obtain⟨aF,q4⟩:=turn i n acc M G w4;rcases q4 with ⟨stop,qn⟩|⟨go,step⟩
  ·refine thn (T.done Y rfl rfl rfl hc i [] s4 M G Y.xe I4 (E ai) ae stop) λr N ⟨hr,I5⟩=>?_
   subst hr;obtain⟨m,hn,_⟩:=id I5.loc;have un:Un (frs X.stack) fp H3 G s3.heap N.heap:=I5.base;have ak:s3.heap.objs.size<=P2.objs.size:=by rw[a];exact Jg _
   have IX:Inv X pins σ G N:=f.call' (ch:=fp) I5.os un I5.hok I5.bare λb hb=>⟨(f2 b hb).2.2.2.1,(f2 b hb).2.1,(f2 b hb).2.2.2.2.1,(f2 b hb).2.2.2.2.2⟩;exact fin l P2.objs.size G N m IX qn hn (f.fpOk ak I5.free)
  ·refine thn (T.item Y rfl rfl rfl hc i [] s4 M G Y.xe I4 (E ai) ae go) λr N ⟨u,hr,h5⟩=>?_
   subst hr;refine thn h5 λ_ s6 ⟨x,H6,I6,r6,y6,S,ay⟩=>?_;have aD:=I6.pinned (E ay) (T.obj _ _ S);refine thn (hg _ _ _ _ _ _ s6 M H6 x u _ aD r6 (step x H6 y6)) λ_ s7 ⟨R,H7,I7,q7⟩=>?_;refine zgt (ht _ _ _ _ _ _ s7 R H7 _ I7 q7) λb s8 ⟨H8,I8,q8⟩=>?_
   have again:∀ {L:St}{P:Hp}{s9:Shared}{F:List V},Inv Y ([]++zcK fp s6.heap) L P s9->(∃ m',m'<n/\W (i+1) m' F L P)->∃ m,m<n/\∃ i acc D H',Inv Y [] D H' s9/\tn i s9.heap/\(∀ b∈fp,H' b=none)/\W i m acc D H':=λ{L P s9 F} I9 ⟨m',hm,w9⟩=>by
    refine⟨m',hm,i+1,F,L,P,I9.unpinned,T.keep _ _ _ S λb hb o e=>(I9.pin (b,o) (Jz _ (Jz _ (za0 hb e)))).1,λb hb=>?_,w9⟩;obtain⟨o,e,d⟩:=T.obj _ _ S b hb;exact(I9.pin (b,o) (Jz _ (Jz _ (za0 hb e)))).2.1
   cases b with
   | false =>
    rw[Ja Jq]at q8 ⊢
    exact again I8 q8
   | true =>
    rw[Jf rfl]at q8 ⊢;refine thn (he _ _ _ _ _ _ s8 R H8 _ I8 q8) λyv s9 ⟨y,P,I9,r9,ar,ao,q9⟩=>?_;refine thn (zaW (X:=Y) _ s9 R P (.ref l) [y] (.ref l) [yv] (λ_ H'=>H'=upd P l (.lst (acc++[y]))) I9 rfl (.cons r9 .nil) ⟨l,acc,y,rfl,rfl,ar,ao,rfl⟩) λ_ aG ⟨_,aI,aE,_,aB⟩=>?_;subst aB;exact again aE q9
 exact codeAny_compStart_list loop (T.self X.A 0 _ _ _ af loop)
theorem Inv.gone {X:Cx}{pins:List (Addr × Obj)}{σ:St}{H:Hp}{s:Shared}{C:Addr}{h':Heap}(I:Inv X pins σ H s) (f:FpOk X pins H C) (sb:Heap.SameBut C s.heap h'):Inv X pins σ H { s with heap:=h' } :=
 I.turned (t':=s.toks) (λb o hb e=>(sb.2 b hb).trans e) f.1 f.2.1 f.2.2.2.1 f.2.2.2.2.1 f.2.2.2.2.2
theorem zeW {X:Cx}{elt tg iter:Expr}{o:Option Expr}{scope:Scope}{pos:Pos}{a:TI}{g:TG}{tt:TT}{te:TE}{N':List Str}{cap:List (Option Nat)}
  (i:X.calm=true) (hi:PI X tg iter a) (j:CapOk X.N N' X.env.scope scope cap)
  (d:∀ C s₀ H₀ fp pins,PG (za4 X N' scope C s₀ H₀ fp pins) tg g)
  (b:∀ C s₀ H₀ fp pins,PTo (za4 X N' scope C s₀ H₀ fp pins) o tt)
  (e:∀ C s₀ H₀ fp pins,PE (za4 X N' scope C s₀ H₀ fp pins) elt te)
  (c:∀ x,foldedSetIterable iter X.env x=pure x:=by intro _;rfl) :
  PE X (.ListComp elt [⟨tg,iter,o.toList,0⟩] scope pos) (tLC cap a g tt te):=by
 intro pins s σ H Q I h;rw[eval_ListComp];exact zmS (use:=none) i hi j d b e c I h λl C n p m k q hn f=>⟨m,hn,λh' sb=>⟨.ref l,n,k.gone f sb,rfl,q⟩⟩
end L2
namespace Own
open PySem PySem.Spec PyProof.Rows
section
variable {M:Model}{prog:Program}{w:World}{A:Around}{E:Value->Shared->Prop}{s:Shared}{α:Type}{Q:α->Shared->Prop}
theorem rf {a:Addr}{o:Obj}{vs:Array Value}{x:Value}{f:Value->Sem α}(k:Nat) (c:s.heap.get? a=some o) (hd:o.data=.fields vs) (b:vs[k]?=some x) (h:wpAny M A (f x) Q E s) :
  wpAny M A (field (.ref a) k >>= f) Q E s:=J0 (Z3 c hd b h)
theorem nx {T id:String}{B:Builtin}{it:Addr}{P:Value->Shared->Prop}(slot:Slot T "__next__" id) (ty:s.TypeIs (.ref it) T) (en:entryFor table id=some B) (ok:argsOk id ⟨[.ref it],[]⟩)
  (h:wpAny (model prog w) A.in1 (B ⟨[.ref it],[]⟩) (λr s'=>∃ v,r=.done (.ret v)/\P v s') E s):wpAny (model prog w) A (Builtin.SmallTypes.nextOf (.ref it)) P E s:=by
 unfold Builtin.SmallTypes.nextOf;refine J0 (wpAny_callSpecial?_slot (name:="__next__") ty slot (JV slot ty en (thn2 h) ok))
where
 thn2 {a:Sem Fin}{P:Value->Shared->Prop}{b:Around}(h:wpAny (model prog w) b a (λr s'=>∃ v,r=.done (.ret v)/\P v s') E s) :
   wpAny (model prog w) b a (λr s'=>∃ v,r=.done (.ret v)/\wpAny (model prog w) A (pure v) P E s') E s :=
  JU h (λ_ _ ⟨v,e,q⟩=>⟨v,e,J7 q⟩) λ_ _ z=>z
end
theorem ends {A:Around}{E:Value->Shared->Prop}{prog:Program}{w:World}{s:Shared}{α:Type}{Q:α->Shared->Prop}(c:A.handled=none)
  (h:∀ h' x,(∀ b o,s.heap.get? b=some o->h'.get? b=some o)->(∃ o,h'.get? x=some o/\o.cls=.type "StopIteration")->E (.ref x) { s with heap:=h' }) :
  wpAny (model prog w) A (Builtin.SmallTypes.stopIteration:Sem α) Q E s:=by
 unfold Builtin.SmallTypes.stopIteration newExc newTuple;refine J0 (J0 (JQ ?_ (by size_fits)));refine J0 (wpAny_of_eq (a:=Value.none) (by rfl) (JQ (wpAny_raiseNew_none c (h _ _ (λb o e=>?_) ⟨_,Jt _ rfl,rfl⟩)) (by size_fits)));exact J8 _ (J8 _ e)
def cN:Bool->String
 | true=>"list_iterator"
 | false=>"tuple_iterator"
abbrev RIt (b:Bool) (h:Heap) (it a:Addr) (i:Int):Prop:=h.get? it=some { cls:=.type (cN b),dict:=none,data:=.fields #[.ref a,.int i 0],slots:=#[] }
def SqO:Bool->Heap->Addr->Array Value->Prop
 | true,h,a,xs=>h.IsList a xs
 | false,h,a,xs=>h.IsTuple a xs
theorem SqO.ob {b:Bool}{h:Heap}{a:Addr}{xs:Array Value}(x:SqO b h a xs):∃ o n,h.get? a=some o/\o.data=.seq xs n:=by
 cases b<;>(obtain⟨o,e,_,n,d⟩:=x;exact⟨o,n,e,d⟩)
theorem SqO.mv {b:Bool}{h h':Heap}{a:Addr}{xs:Array Value}(x:SqO b h a xs) (k:∀ o,h.get? a=some o->h'.get? a=some o):SqO b h' a xs:=by
 cases b<;>(obtain⟨o,e,r⟩:=x;exact⟨o,k o e,r⟩)
theorem SqO.ne {b c:Bool}{h:Heap}{a it f:Addr}{i:Int}{xs:Array Value}(x:SqO b h a xs) (y:RIt c h it f i):a≠it:=λz=>by
 obtain⟨o,n,e,d⟩:=x.ob;rw[z,y]at e;cases e;cases d
section
variable {prog:Program}{w:World}{A:Around}{E:Value->Shared->Prop}{s:Shared}
theorem ty {b:Bool}{it a:Addr}{i:Int}(y:RIt b s.heap it a i):s.TypeIs (.ref it) (cN b):=⟨_,y,rfl⟩
theorem zfQ {b:Bool}{it a:Addr}{i:Nat}{xs:Array Value}{x:Value}{P:Value->Shared->Prop}{B:Builtin}(k:B=match b with|true=>Builtin.«list_iterator.__next__»|false=>Builtin.«tuple_iterator.__next__»)
  (y:RIt b s.heap it a i) (sq:SqO b s.heap a xs) (f:xs[i]?=some x) (h:∀ h',RIt b h' it a (i+1)->Heap.SameBut it s.heap h'->P x { s with heap:=h' }) :
  wpAny (model prog w) A (B ⟨[.ref it],[]⟩) (λr s'=>∃ v,r=.done (.ret v)/\P v s') E s:=by
 obtain⟨o,n,e,d⟩:=sq.ob
 have fin:wpAny (model prog w) A (match xs[(i:Int).toNat]? with
   | some x=>(do setField (.ref it) 1 (rawInt ((i:Int)+1));ret x:Sem Fin)
   | none=>Builtin.SmallTypes.stopIteration) (λr s'=>∃ v,r=.done (.ret v)/\P v s') E s:=by
  rw[Yt,f];exact J0 (Y4 y (show 1<2 by decide) λh' g sb=>J7 ⟨x,rfl,h h' g sb⟩)
 rw[Yt,f]at fin;subst k;cases b <;>
 ·refine rf 0 y rfl rfl (PyIte (show ¬((Value.ref a == Value.none)=true) from Jq) (rf 1 y rfl rfl (J0 (Y3 e d ?_))))
  simp only[Yt,f];exact fin
where
 PyIte {c:Prop} [Decidable c] {α:Type}{a b:Sem α}{M:Model}{A:Around}{Q:α->Shared->Prop}{E:Value->Shared->Prop}{s:Shared}(j:¬ c) (h:wpAny M A b Q E s):wpAny M A (if c then a else b) Q E s:=by
  rw[Ja j];exact h
theorem zeP {b:Bool}{it a:Addr}{i:Nat}{xs:Array Value}{Q:Fin->Shared->Prop}{B:Builtin}(l:B=match b with|true=>Builtin.«list_iterator.__next__»|false=>Builtin.«tuple_iterator.__next__»)
  (g:A.handled=none) (y:RIt b s.heap it a i) (sq:SqO b s.heap a xs) (f:xs[i]?=none)
  (h:∀ h' x,(∀ c o,c≠it->s.heap.get? c=some o->h'.get? c=some o)->(∃ o,h'.get? x=some o/\o.cls=.type "StopIteration")->E (.ref x) { s with heap:=h' }) :
  wpAny (model prog w) A (B ⟨[.ref it],[]⟩) Q E s:=by
 obtain⟨o,n,e,d⟩:=sq.ob;subst l;cases b <;>
 ·refine rf 0 y rfl rfl (zfQ.PyIte (show ¬((Value.ref a == Value.none)=true) from Jq) (rf 1 y rfl rfl (J0 (Y3 e d ?_))))
  simp only[Yt,f];refine J0 (YR (J0 (Y4 y (show 0<2 by decide) λh1 _ sb=>?_)));exact ends g λm x k z=>h m x (λc o j q=>k c o ((sb.2 c j).trans q)) z
theorem zmG {b:Bool}{it a:Addr}{i:Nat}{xs:Array Value}{x:Value}{P:Value->Shared->Prop}(y:RIt b s.heap it a i) (sq:SqO b s.heap a xs) (c:xs[i]?=some x)
  (h:∀ h',RIt b h' it a (i+1)->Heap.SameBut it s.heap h'->P x { s with heap:=h' }):wpAny (model prog w) A (Builtin.SmallTypes.nextOf (.ref it)) P E s:=by
 cases b
 ·exact nx F.slot_tuple_iterator_next (ty y) F.entry_tuple_iterator_next (F.args_tuple_iterator_next_1 _) (zfQ (b:=false) rfl y sq c h)
 ·exact nx slot_listiter_next (ty y) entry_listiter_next (args_listiter_next _) (zfQ (b:=true) rfl y sq c h)
theorem ziX {b:Bool}{it a:Addr}{i:Nat}{xs:Array Value}{P:Value->Shared->Prop}(e:A.handled=none) (y:RIt b s.heap it a i) (sq:SqO b s.heap a xs) (d:xs[i]?=none)
  (h:∀ h' x,(∀ c o,c≠it->s.heap.get? c=some o->h'.get? c=some o)->(∃ o,h'.get? x=some o/\o.cls=.type "StopIteration")->E (.ref x) { s with heap:=h' }) :
  wpAny (model prog w) A (Builtin.SmallTypes.nextOf (.ref it)) P E s:=by
 have inner:A.in1.handled=none:=e;cases b
 ·exact nx F.slot_tuple_iterator_next (ty y) F.entry_tuple_iterator_next (F.args_tuple_iterator_next_1 _) (zeP (b:=false) rfl inner y sq d h)
 ·exact nx slot_listiter_next (ty y) entry_listiter_next (args_listiter_next _) (zeP (b:=true) rfl inner y sq d h)
theorem zcG {b:Bool}{a:Addr}{xs:Array Value}{P:Value->Shared->Prop}(sq:SqO b s.heap a xs)
  (h:P (.ref s.heap.objs.size) { s with heap:=s.heap.push { cls:=.type (cN b),data:=.fields #[.ref a,.int 0 0] } }):wpAny (model prog w) A (pyIter (.ref a)) P E s:=by
 cases b
 ·exact wpAny_pyIter_tuple sq h
 ·exact wpAny_pyIter_list sq h
end
theorem draws {prog:Program}{w:World}{A:Around}(g:A.handled=none) (b:Bool) (it a:Addr) (xs:Array Value) (d:a≠it) :
  Draws prog w A it [it,a] xs.size (λi v=>xs[i]?=some v) (λi h=>RIt b h it a i/\SqO b h a xs) :=
 ⟨λ_ _ st=>⟨_,st.1⟩,λ_ _ _ st k=>⟨k it JC _ st.1,st.2.mv λo e=>k a (JB _ JC) o e⟩,
  λi s Q E hi st k=>zmG st.1 st.2 (ZK hi) λh' y sb=>k _ h' s.toks (ZK hi) ⟨y,st.2.mv λo e=>(sb.2 a d).trans e⟩ sb,
  λs Q E st k=>ziX g st.1 st.2 (by simp) λh' x f z=>k h' x (λc o j q=>f c o j q) z⟩
theorem zle (b:Bool) (a:Addr) (o:Obj) (xs:Array Value) :
  Meets (Builtin.«enumerate.__new__» ⟨[.type "enumerate",.ref a],[]⟩) (λ_ R s=>s.heap.get? a=some o/\SqO b s.heap a xs /\
   R (.ok (.ret (.ref (s.heap.push { cls:=.type (cN b),data:=.fields #[.ref a,.int 0 0] }).objs.size)))
    { s with heap:=(s.heap.push { cls:=.type (cN b),data:=.fields #[.ref a,.int 0 0] }).push { cls:=.type "enumerate",data:=.fields #[.none,.bool false,.ref s.heap.objs.size,rawInt 0,.none,.none] } }) :=
 .of_wp λprog w A R s h=>by
  obtain⟨i,g,d,tk,os⟩:=s;obtain⟨f,sq,h⟩:=h;have sub:=sub_enumerate;have e:SqO b (Shared.heap ⟨i,g,d,tk,os⟩) a xs:=sq
  wp_walk using WC f;refine wpAny_stack_any λst=>J7 ?_
  split
  case h_1 c _ _ _ _ _ =>
   cases (c == Value.type "enumerate")<;>(wp_walk using WC f,zcG e;exact⟨_,rfl,h⟩)
  all_goals (wp_walk using WC f,zcG e;exact⟨_,rfl,h⟩)
theorem zjX {prog:Program}{w:World}{A:Around}{E:Value->Shared->Prop}{s:Shared}{b:Bool}{a:Addr}{xs:Array Value}{P:Value->Shared->Prop}(sq:SqO b s.heap a xs)
  (h:∀ h' e it,s.heap.objs.size<=e->s.heap.objs.size<=it->e≠it->IsEnum h' e it 0 .none->RIt b h' it a 0->(∀ c o,s.heap.get? c=some o->h'.get? c=some o)->P (.ref e) { s with heap:=h' }) :
  wpAny (model prog w) A (call (.type "enumerate") [.ref a]) P E s:=by
 obtain⟨o,n,d,_⟩:=sq.ob;refine callType_new F.called_enumerate (by decide) (F.typeCall_enumerate_1 _) (F.newCall_enumerate_1 _) (λobj=>F.args_object_init_2 obj _) F.entry_enumerate_new (zle b a o xs) ⟨d,sq,⟨_,Jt _ rfl,rfl⟩,?_⟩;refine h _ _ _ ?_ (Jg _) ?_ (Jt _ rfl) (J8 _ (Jt _ rfl)) λc o e=>J8 _ (J8 _ e)
 ·rw[Z4];exact Nat.le_succ _
 ·rw[Z4];exact Nat.succ_ne_self _
structure Sep (z TI TO i1 i2:Addr) (f1 f2:List Addr):Prop where
 all:[z,TI,TO,i1,i2].Nodup
 z1:z∉f1
 t1:TO∉f1
 o1:i2∉f1
 z2:z∉f2
 t2:TO∉f2
 o2:i1∉f2
section
variable {prog:Program}{w:World}{A:Around}{E:Value->Shared->Prop}{s:Shared}{z TI TO i1 i2:Addr}{f1 f2:List Addr}{n1 n2 k:Nat}{P1 P2:Nat->Value->Prop}{S1 S2:Nat->Heap->Prop}{a b:Value}
theorem zgo (S:Sep z TI TO i1 i2 f1 f2) (t:Draws prog w A i1 f1 n1 P1 S1) (p:Draws prog w A i2 f2 n2 P2 S2) {Q:Value->Shared->Prop}
  (hz:IsZip s.heap z TI TO .none) (P:IsPair s.heap TI (.ref i1) (.ref i2)) (O:IsPair s.heap TO a b) (U:S1 k s.heap) (T:S2 k s.heap) (l1:k<n1) (l2:k<n2)
  (h:∀ x y h' tk,P1 k x->P2 k y->IsZip h' z TI TO (rawInt s.heap.objs.size)->IsPair h' TO x y->S1 (k+1) h'->S2 (k+1) h'->IsPair h' s.heap.objs.size x y ->
   (∀ c o,c∉[z,TO,i1,i2]->s.heap.get? c=some o->h'.get? c=some o)->Q (.ref s.heap.objs.size) { s with heap:=h',toks:=tk }) :
  wpAny (model prog w) A (Builtin.«zip.__next__» ⟨[.ref z],[]⟩) (λr s'=>∃ v,r=.done (.ret v)/\Q v s') E s:=by
 have nd:=S.all;simp only[JJ,Jh,Je,Y0,Zn]at nd;obtain⟨⟨zI,m,z1,z2⟩,⟨IO,I1,I2⟩,⟨O1,Z⟩,aa,_⟩:=nd;refine rf 2 hz rfl rfl (rf 3 hz rfl rfl (J0 (Y3 P rfl (J0 (rf 0 hz rfl rfl (J7 ?_))))));simp only[Yv];refine J0 (YR (rf 4 hz rfl rfl (J0 (Y4 hz (show 0<5 by decide) λha M sa=>J0 ?_))));have u:IsZip ha z TI TO .ellipsis:=M;simp only[List.zipIdx_cons,List.zipIdx_nil,Yy,YS];refine J0 (J0 (WD (J0 (t.item k _ _ _ l1 (t.frame _ _ _ U λc f o e=>(sa.2 c λq=>S.z1 (q ▸ f)).trans e) λx hb tb N db sb=>J7 ?_))));have J:IsPair hb TO a b:=(sb.2 TO O1).trans ((sa.2 TO (Ne.symm m)).trans O);refine J0 (Y3 J rfl (J0 (wpAny_updateSeq_pair J λf Y sc=>J0 (Zt (J7 ?_)))));have B:IsPair f TO x b:=Y;have st2:S2 k f:=p.frame _ _ _ T λc hm o e=>(sc.2 c λq=>S.t2 (q ▸ hm)).trans ((sb.2 c λq=>S.o2 (q ▸ hm)).trans ((sa.2 c λq=>S.z2 (q ▸ hm)).trans e));refine J0 (J0 (WD (J0 (p.item k _ _ _ l2 st2 λy hd td py R i=>J7 ?_))));have I:IsPair hd TO x b:=(i.2 TO Z).trans B;refine J0 (Y3 I rfl (J0 (wpAny_updateSeq_pair I λd X g=>J0 (Zt (J7 (J7 ?_))))));have l:IsPair d TO x y:=X;refine J0 (Y3 l rfl (J0 (Wv (J0 ?_))));have sz:d.objs.size=s.heap.objs.size:=by rw[g.1,i.1,sc.1,sb.1,sa.1]
 have C:IsZip d z TI TO .ellipsis:=(g.2 z m).trans ((i.2 z z2).trans ((sc.2 z m).trans ((sb.2 z z1).trans u)));have zn:d.objs.size≠z:=JT (Jc C);unfold Builtin.SmallTypes.ownedTupleHandOut;refine J0 (Y4 (J8 _ C) (show 0<5 by decide) λhf L F=>Y4 L (show 1<5 by decide) λn K D=>J7 ⟨_,rfl,?_⟩);have up:∀ c o,c≠z->d.get? c=some o->n.get? c=some o:=λc o q e=>(D.2 c q).trans ((F.2 c q).trans (J8 _ e));have new:IsPair n d.objs.size x y:=(D.2 _ zn).trans ((F.2 _ zn).trans (Jt _ rfl));have j:IsZip n z TI TO (rawInt d.objs.size):=K;rw[sz]at new j;show Q (.ref d.objs.size) _;rw[sz];refine h x y n td N py j (up _ _ (Ne.symm m) l) ?_ ?_ new λc o f e=>?_
 ·exact t.frame _ _ _ db λc hm o e=>up c o (λq=>S.z1 (q ▸ hm)) ((g.2 c λq=>S.t1 (q ▸ hm)).trans ((i.2 c λq=>S.o1 (q ▸ hm)).trans ((sc.2 c λq=>S.t1 (q ▸ hm)).trans e)))
 ·exact p.frame _ _ _ R λc hm o e=>up c o (λq=>S.z2 (q ▸ hm)) ((g.2 c λq=>S.t2 (q ▸ hm)).trans e)
 ·simp only[Jh,Je,Y0,Zn]at f
  obtain⟨H,G,W,V⟩:=f;exact up c o H ((g.2 c G).trans ((i.2 c V).trans ((sc.2 c G).trans ((sb.2 c W).trans ((sa.2 c H).trans e)))))
end
section
variable {prog:Program}{w:World}{A:Around}{E:Value->Shared->Prop}{s:Shared}{z TI TO i1 i2:Addr}{f1 f2:List Addr}{n1:Nat}{P1:Nat->Value->Prop}{S1:Nat->Heap->Prop}
theorem zgn (S:Sep z TI TO i1 i2 f1 f2) (i:Draws prog w A i1 f1 n1 P1 S1) {Q:Fin->Shared->Prop}(hz:IsZip s.heap z TI TO .none) (l:IsPair s.heap TI (.ref i1) (.ref i2)) (m:S1 n1 s.heap)
  (h:∀ h' x,(∀ c o,c∉[z,TO,i1,i2]->s.heap.get? c=some o->h'.get? c=some o)->(∃ o,h'.get? x=some o/\o.cls=.type "StopIteration")->E (.ref x) { s with heap:=h' }):wpAny (model prog w) A (Builtin.«zip.__next__» ⟨[.ref z],[]⟩) Q E s:=by
 have nd:=S.all;simp only[JJ,Jh,Je,Y0,Zn]at nd;obtain⟨⟨r,p,z1,z2⟩,⟨IO,y,v⟩,⟨u,t⟩,n,_⟩:=nd;refine rf 2 hz rfl rfl (rf 3 hz rfl rfl (J0 (Y3 l rfl (J0 (rf 0 hz rfl rfl (J7 ?_))))));simp only[Yv];refine J0 (YR (rf 4 hz rfl rfl (J0 (Y4 hz (show 0<5 by decide) λha j sa=>J0 ?_))));have b:IsZip ha z TI TO .ellipsis:=j;simp only[List.zipIdx_cons,List.zipIdx_nil,Yy,YS];refine J0 (J0 (WD (J0 (i.done _ _ _ (i.frame _ _ _ m λc a o e=>(sa.2 c λq=>S.z1 (q ▸ a)).trans e) λhb x f ⟨k,ex,g⟩=>?_))));have d:IsZip hb z TI TO .ellipsis:=f z _ z1 b;have xz:x≠z:=λq=>by rw[q,d]at ex;cases ex;exact absurd (show Value.type "zip" = Value.type "StopIteration" from g) (by decide)
 refine Y4 d (show 0<5 by decide) λa _ sc=>h a x (λc o hm e=>?_) ⟨k,(sc.2 x xz).trans ex,g⟩;simp only[Jh,Je,Y0,Zn]at hm;exact(sc.2 c hm.1).trans (f c o hm.2.2.1 ((sa.2 c hm.1).trans e))
end
theorem zfv (b j:Bool) (a f:Addr) (xs ys:Array Value):Meets (Builtin.«zip.__new__» ⟨[.type "zip",.ref a,.ref f],[]⟩) (λ_ R s=>SqO b s.heap a xs/\SqO j s.heap f ys /\
  ∀ h' z,(∃ TI TO i1 i2,[z,TI,TO,i1,i2].Nodup/\(∀ c∈[z,TI,TO,i1,i2],s.heap.objs.size<=c)/\IsZip h' z TI TO .none/\IsPair h' TI (.ref i1) (.ref i2)/\IsPair h' TO .none .none/\RIt b h' i1 a 0/\RIt j h' i2 f 0) ->
   (∀ c o,s.heap.get? c=some o->h'.get? c=some o)->R (.ok (.ret (.ref z))) { s with heap:=h' }) :=
 .of_wp λprog w A R s h=>by
  obtain⟨i,g,d,tk,os⟩:=s;obtain⟨n,m,h⟩:=h;have sub:=sub_zip;have l:SqO b (Shared.heap ⟨i,g,d,tk,os⟩) a xs:=n;have k:SqO j (Shared.heap ⟨i.push { cls:=.type (cN b),data:=.fields #[.ref a,.int 0 0] },g,d,tk,os⟩) f ys:=m.mv λo e=>J8 _ e
  wp_walk using zcG l,zcG k
  refine⟨_,rfl,h _ _ ⟨_,_,_,_,?_,?_,Jt _ rfl,J8 _ (J8 _ (Jt _ rfl)),J8 _ (Jt _ rfl),
   J8 _ (J8 _ (J8 _ (J8 _ (Jt _ rfl)))),J8 _ (J8 _ (J8 _ (Jt _ rfl)))⟩ λc o e=>?_⟩
  ·simp only[Z4,JJ,Jh,Je,Y0,Zn]
   simp<;>lia
  ·simp only[Z4,Jh,Je,Y0]
   intro c p;have:i.objs.size<=c:=by lia
   exact this
  ·exact J8 _ (J8 _ (J8 _ (J8 _ (J8 _ e))))
end Own
namespace L2
open PySem PySem.Spec PyProof.Rows Own
section
variable {X:Cx}{pins:List (Addr × Obj)}{σ:St}{H:Hp}{s:Shared}{h':Heap}
theorem Inv.spunN {fp:List Addr}{T:Addr}{o:HO}{t':Nat}(I:Inv X pins σ H s) (k:∀ b o,b∉fp->s.heap.get? b=some o->h'.get? b=some o) (f:∀ b∈fp,FpOk X pins H b) (g:s.heap.objs.size<=T)
  (new:ObjOk X.prog X.w (upd H T o) h' T o):Inv X pins σ (upd H T o) { s with heap:=h',toks:=t' }:=by
 have hn:H T=none:=I.hok.fresh g;have neT:∀ b u,s.heap.get? b=some u->b≠T:=λb u e=>JA (JF (Jc e) g);have d:∀ b u,H b=some u->b∉fp:=λb u e hb=>by rw[(f b hb).1]at e;cases e
 refine I.step (g':=s.gens) (d':=s.drawn) (ch:=fp) (λb hb=>?_) (λb o _ _ a e _=>k b o a e) (λb o _ _ a e _=>⟨o.slots,k b o a e⟩) (λb o _ e n=>by rw[zag (neT b o e)];exact n)
  (λb o a e=>⟨o,k b o a e⟩) (λb xs e=>by rw[zag (zae e hn)];exact e) (λb o u e=>by rw[zag (zae e hn)];exact e) (λb ps e=>⟨#[],by rw[zag (zae e hn),e];simp⟩) (λm hm=>?_) (λb u e=>?_) I.bare
 ·obtain⟨p,f1,f2,l,j,i⟩:=f b hb
  exact⟨l,f1,j,i⟩
 ·obtain⟨o,es,ep,h,r⟩:=hm
  exact⟨o,es,ep,k _ o (λhb=>(f _ hb).2.1 rfl) h,r⟩
 ·by_cases hb:b=T
  ·subst hb;rw[zab]at e;cases e;exact new
  ·rw[zag hb]at e
   refine(I.hok b u e).stay (λc v a q=>k c v ?_ q) (λc q=>by rw[zag (zae q hn)];exact q) λc xs q=>by rw[zag (zae q hn)];exact q
   rcases a with z|z
   ·rw[z];exact d b u e
   ·exact d c _ z
theorem Inv.spun {fp:List Addr}{t':Nat}(I:Inv X pins σ H s) (k:∀ b o,b∉fp->s.heap.get? b=some o->h'.get? b=some o) (f:∀ b∈fp,FpOk X pins H b):Inv X pins σ H { s with heap:=h',toks:=t' }:=by
 have d:∀ b u,H b=some u->b∉fp:=λb u e hb=>by rw[(f b hb).1]at e;cases e
 refine I.step (g':=s.gens) (d':=s.drawn) (ch:=fp) (λb hb=>?_) (λb o _ _ a e _=>k b o a e) (λb o _ _ a e _=>⟨o.slots,k b o a e⟩) (λb o _ e n=>n)
  (λb o a e=>⟨o,k b o a e⟩) (λb xs e=>e) (λb o u e=>e) (λb ps e=>⟨#[],by rw[e];simp⟩) (λm hm=>?_) (λb u e=>?_) I.bare
 ·obtain⟨l,f1,f2,j,i,h⟩:=f b hb
  exact⟨j,f1,i,h⟩
 ·obtain⟨o,es,ep,g,r⟩:=hm
  exact⟨o,es,ep,k _ o (λhb=>(f _ hb).2.1 rfl) g,r⟩
 ·refine(I.hok b u e).stay (λc v a q=>k c v ?_ q) (λc q=>q) λc xs q=>q
  rcases a with z|z
  ·rw[z];exact d b u e
  ·exact d c _ z
end
def SqB:Bool->PySem.W.Frag->Hp->Addr->List V->Prop
 | true,K,H,a,xs=>SqL K H a xs
 | false,K,H,a,xs=>SqT K H a xs
section
variable {X:Cx}{pins:List (Addr × Obj)}{σ:St}{H:Hp}{s:Shared}{a c:Addr}{xs ys:List V}{b:Bool}
theorem Inv.sq (I:Inv X pins σ H s) (h:SqB b X.K H a xs):∃ its:List Value,Vals xs its/\SqO b s.heap a its.toArray:=by
 cases b
 ·obtain⟨its,r,p,z⟩:=I.tuple h
  exact⟨its,r,p⟩
 ·obtain⟨its,r,p,z⟩:=I.list h
  exact⟨its,r,p.isList⟩
theorem Inv.sq_inj (I:Inv X pins σ H s) (h:SqB b X.K H a xs) (h':SqB b X.K H a ys):xs=ys:=by
 cases b
 ·exact I.tuple_inj h h'
 ·exact I.list_inj h h'
theorem Inv.sq_ne (I:Inv X pins σ H s) (h:SqB b X.K H a xs) (f:FpOk X pins H c):c≠a:=by
 rintro rfl
 have d:∀ o,X.K.lookup c=some o->False:=λo e=>by
  have g:=I.ok.mod.kin c o e;rcases f.2.2.2.1 with z|z
  ·exact I.ok.noex c o g z
  ·exact absurd (JF (Jc g) (JX I.ok.bsz z)) (Yz _)
 cases b <;>
 ·rcases h with (h|⟨o,h⟩)|⟨o,_,_,e,_⟩
  ·rw[f.1]at h;cases h
  ·rw[f.1]at h;cases h
  ·exact d o e
end
def Pr (v u:V) (H:Hp) (x:V) (H':Hp):Prop:=∃ T,H T=none/\x=.ref T/\H'=upd H T (.tup [v,u])
theorem zde {P:Program}{w:World}{H:Hp}{h:Heap}{T:Addr}{v u:V}{a b:Value}(e:IsPair h T a b) (c:RelV v a) (d:RelV u b):ObjOk P w (upd H T (.tup [v,u])) h T (.tup [v,u]) :=
 ⟨show 2<=sizeLine by decide,[a,b],.cons c (.cons d .nil),⟨_,e,rfl,_,rfl,rfl⟩⟩
def Ite (K:PySem.W.Frag) (b:Bool) (a:Addr):It :=
 ⟨λi H=>∃ xs x,SqB b K H a xs/\xs[i]?=some x,λi H x H'=>∃ y,(∀ xs,SqB b K H a xs->xs[i]?=some y)/\Pr (.int i) y H x H',λi H=>∃ xs,SqB b K H a xs/\xs.length=i⟩
theorem zh1 {P:Program}{w:World}{K:PySem.W.Frag}{es:List Expr}{k1} {L:Pos}(b:Bool) (a e it:Addr) (f:e≠it):Turn P w K (.Tuple es k1 L) (Ite K b a) [e,it] e (λi h=>(∃ old,IsEnum h e it i old)/\RIt b h it a i) where
 mem:=JC
 obj:=λi h ⟨⟨old,d⟩,hi⟩ c k=>by
  rcases Jh.mp k with q|q
  ·rw[q];exact⟨_,d,λv z=>by cases z⟩
  ·rw[Jd.mp q];exact⟨_,hi,λv z=>by cases z⟩
 keep:=λi h h' ⟨⟨old,d⟩,hi⟩ D=>⟨⟨old,D e (by simp) _ d⟩,D it (by simp) _ hi⟩
 item:=by
  intro X r n t k i pins s σ H E I j ⟨⟨old,d⟩,hi⟩ ⟨xs,x,g,l⟩;subst r n t;obtain⟨its,m,p⟩:=I.sq g;obtain⟨u,F,J⟩:=m.get l;have y:i<its.toArray.size:=by simpa using (J9.mp F).1
  refine wpAny_pyNext_enum_itemD (draws (prog:=X.prog) (w:=X.w) (A:=X.A.in1) (I.ok.hd k) b it a its.toArray (p.ne hi)) d ⟨hi,p⟩ y f (by simp[f,I.sq_ne g (j e (by simp))]) λv h1 tk O R Q T _ S=>?_;obtain rfl:u=v:=Js (F.symm.trans (by simpa using O));refine⟨_,rfl,wpAny_letOwnedTupleGo_enum R λV B s2=>?_⟩;have C:s.heap.objs.size≠e:=JT (Jc d);have M:s.heap.objs.size≠it:=JT (Jc hi);refine⟨.ref s.heap.objs.size,_,I.spunN (fp:=[e,it]) (λc o hm q=>?_) j (Jg _) (zde (v:=.int i) (u:=x) ((s2.2 _ C).trans T) ⟨tk,rfl⟩ J),rfl,⟨x,λys N=>by rw[I.sq_inj N g];exact l,_,I.fresh,rfl,rfl⟩,⟨⟨_,B⟩,(s2.2 it (Ne.symm f)).trans Q.1⟩,λc hm=>?_⟩
  ·have G:c≠e:=λz=>hm (by simp[z])
   exact(s2.2 c G).trans (S c o G (λz=>hm (by simp[z])) q)
  ·rw[zag,(j c hm).1]
   rintro rfl;rcases Jh.mp hm with z|z
   ·exact C z
   ·exact M (Jd.mp z)
 done:=by
  intro X r n t k i pins s σ H E I j ⟨⟨old,d⟩,hi⟩ ⟨xs,g,l⟩;subst r n t;obtain⟨its,m,p⟩:=I.sq g;have hz:i=its.toArray.size:=by rw[Jj,<- m.length,l]
  refine wpAny_pyNext_enum_endD (draws (prog:=X.prog) (w:=X.w) (A:=X.A.in1) (I.ok.hd k) b it a its.toArray (p.ne hi)) d ⟨by rw[<- hz];exact hi,p⟩ λh' U=>⟨rfl,I.spun (t':=s.toks) (fp:=[e,it]) (λc o hm q=>U c o (λz=>hm (by simp[z])) q) j⟩
 self:=λ_ _ _ _ _ ⟨⟨_,d⟩,_⟩ h=>wpAny_pyIter_enum d h
def zoB (K:PySem.W.Frag) (b:Bool) (ta:TA):TI:=λσ H R=>ta σ H λvs H1=>∃ a xs,vs=[.ref a]/\SqB b K H1 a xs/\R (Ite K b a) H1
theorem zmj {X:Cx}{a:Expr}{ta:TA}{p pos m:Pos}{es:List Expr}{k1} (b:Bool) (t:Gl X "enumerate") (hm:X.mg "enumerate" = none) (ha:PA X [a] ta) (n:starEach [a] X.env=[(false,eval a X.env)]:=by rfl) :
  PI X (.Tuple es k1 m) (.Call (.Name "enumerate" p) [a] [] pos) (zoB X.K b ta):=by
 intro pins s σ H R I h;refine Call_ (zbA I t hm (u:=.type "enumerate") (by rfl) (Yk (thn (ha pos pins s σ H _ I h) λus s1 ⟨vs,H1,f,j,k⟩=>?_) n rfl));obtain⟨w,xs,rfl,o,q⟩:=k;obtain⟨u,rfl,i⟩:=j.one;cases i;obtain⟨its,x,l⟩:=f.sq o;refine zjX l λh' e it l1 l2 ne g hi r=>wpAny_pyIter_enum g ⟨_,[e,it],_,_,H1,rfl,f.kept (t':=s1.toks) r,zh1 b w e it ne,⟨⟨_,g⟩,hi⟩,λc v=>?_,q⟩
 have d:s1.heap.objs.size<=c:=by
  rcases Jh.mp v with z|z
  ·rw[z];exact l1
  ·rw[Jd.mp z];exact l2
 exact f.fpOk d (f.hok.fresh d)
def Itz (K:PySem.W.Frag) (a c:Bool) (b d:Addr):It :=
 ⟨λi H=>∃ xs ys x y,SqB a K H b xs/\SqB c K H d ys/\xs[i]?=some x/\ys[i]?=some y,λi H v H'=>∃ x y,(∀ xs,SqB a K H b xs->xs[i]?=some x)/\(∀ ys,SqB c K H d ys->ys[i]?=some y)/\Pr x y H v H',
  λi H=>∃ xs,SqB a K H b xs/\xs.length=i⟩
def iZip (K:PySem.W.Frag) (d c:Bool) (ta:TA):TI:=λσ H R=>ta σ H λvs H1=>∃ b a xs ys,vs=[.ref b,.ref a]/\SqB d K H1 b xs/\SqB c K H1 a ys/\R (Itz K d c b a) H1
section
variable {X:Cx}
theorem znf {prog:Program}{w:World}{A:Around}(d:A.handled=none) (b:Bool) (I a:Addr) (c:a≠I) (xs:Array Value) :
  Walks prog w A I [I,a] [I] xs.size (λi v=>xs[i]?=some v) (λi h=>(match b with|true=>h.IsListIter I a i|false=>h.IsTupleIter I a i)/\SqO b h a xs):=by
 cases b
 ·exact Walks.tuple d I a c xs
 ·exact Walks.list d I a c xs
theorem zc9 (ns:List Int):∀ n,n<=ns.length->preSum (λi=>ns.getD i 0) n=(ns.take n).sum
 | 0,_=>by simp[preSum]
 | n+1,h=>by
  have e:ns[n]?=some ns[n]:=J6 h;rw[preSum,zc9 ns n (Nat.le_of_lt h),List.take_add_one,List.sum_append,e,Jb,e];simp
theorem zjT (y:X.calm=true) (b:Bool):CallR X (.builtin "sum") (λvs H Q=>∃ a ns,vs=[.ref a]/\SqB b X.K H a (List.map V.int ns)/\Q (.int ns.sum) H):=by
 intro pins s σ H vs us Q I j h;obtain⟨a,ns,rfl,m,q⟩:=h;obtain⟨u,rfl,k⟩:=j.one;cases k;obtain⟨its,r,p⟩:=I.sq m
 have f:a≠s.heap.objs.size:=by
  obtain⟨o,n,e,_⟩:=p.ob;exact JA (Jc e)
 have w:its.length=ns.length:=by rw[<- r.length,Jm]
 refine call_sum_walkG (zcG p ⟨s.heap.objs.size,[s.heap.objs.size,a],[s.heap.objs.size],_,_,_,λi=>ns.getD i 0,rfl,znf (show X.A.in1.handled=none from I.ok.hd y) b _ a f its.toArray,?_,?_,?_,?_⟩)
 ·refine⟨?_,p.mv λo e=>J8 _ e⟩
  cases b<;>exact⟨_,Jt _ rfl,rfl,rfl⟩
 ·intro c hm
  show c<(s.heap.push _).objs.size;rw[Z4];rcases Jh.mp hm with z|z
  ·rw[z];exact Nat.lt_succ_self _
  ·rw[Jd.mp z]
   obtain⟨o,n,e,_⟩:=p.ob;exact ZE (Jc e)
 ·intro i v l
  have d:its[i]?=some v:=by simpa using l
  have hi:=(J9.mp d).1
  have e:(List.map V.int ns)[i]?=some (V.int (ns.getD i 0)):=by
   rw[JL,Jb,J6 (by lia)];rfl
  obtain⟨A,g,⟨t,rfl⟩⟩:=r.get e;rw[d]at g;exact⟨t,Js g⟩
 ·intro h' tk t' x
  refine⟨.int ns.sum,H,I.kept (t':=tk) λc o e=>x c o ?_ (J8 _ e),⟨t',?_⟩,q⟩
  ·exact λz=>JA (Jc e) (Jd.mp z)
  ·rw[Jj,w,zc9 ns _ (Jg _),Yq]
theorem zlk:CallR X (.builtin "isinstance") (λvs H Q=>∃ x T t k,vs=[x,.ty T]/\TyOf X.K H x t/\PySem.W.kitOne X.K t (.type T)=some k/\Q (.bl k) H):=by
 intro pins s σ H vs us Q I b h;obtain⟨x,T,t,k,rfl,d,e,q⟩:=h;obtain⟨u,v,rfl,c,a⟩:=b.two;cases (show v=Value.type T from a);exact zjo I c d e λtk=>⟨.bl k,H,I.tok tk,rfl,q⟩
theorem zlI (ns ms:List Int):((List.range (min (ns.map V.int).length (ms.map V.int).length)).all (λj=>eqV ((ns.map V.int).getD j .non) ((ms.map V.int).getD j .non)) && (ns.map V.int).length == (ms.map V.int).length)=decide (ns=ms):=by
 rw[YE,ZH,Zq,decide_eq_true_iff,beq_iff_eq,Jm,Jm]
 have at':∀ (l:List Int) (j:Nat) (h:j<l.length),(l.map V.int).getD j .non=.int l[j]:=λl j h=>by
  rw[Jb,JL,J6 h];rfl
 constructor
 ·rintro⟨h,e⟩
  refine W5 e λj h1 c=>?_;have:=h j (YN.mpr (by lia));rw[at' ns j h1,at' ms j c]at this;simpa [eqV] using this
 ·rintro rfl
  refine⟨λj b=>?_,rfl⟩;have a:j<ns.length:=by have:=YN.mp b;lia
  rw[at' ns j a];simp[eqV]
theorem zcr (ns:List Int):(ns.map V.int).all zdo=true:=by
 rw[List.all_map,Zq];intro _ _;rfl
end
example (K:PySem.W.Frag):PySem.W.kitOne K (.type "int") (.type "tuple")=some false:=by rfl
example (K:PySem.W.Frag):PySem.W.kitOne K (.type "int") (.type "bool")=some false:=by first|rfl|decide|(with_unfolding_all rfl)
theorem zac {H:Hp}{p:Addr}(h:H p=none) (o:HO):Same H (upd H p o):=λb u q=>by rw[zag (zae q h)];exact q
def capB (N N':List Str) (sc scope:Scope) (cap:List (Option Nat)):Bool :=
 decide (scope.kind=.function) && (scope.names.all λy=>decide (y.2≠.cell) && (decide (y.2≠.local) || decide (scope.names.lookup y.1=some .local)) &&
  (decide (y.2≠.free) || (decide (sc.names.lookup y.1=some .cell) || decide (sc.names.lookup y.1=some .free)))) && decide (cap.length=N'.length) &&
 ((N'.zip cap).all λp=>match p.2 with
  | none=>true
  | some i=>decide (N[i]?=some p.1) && (decide (scope.names.lookup p.1=some .free) && (decide (sc.names.lookup p.1=some .cell) || decide (sc.names.lookup p.1=some .free))))
theorem CapOk.of {N N':List Str}{sc scope:Scope}{cap:List (Option Nat)}(h:capB N N' sc scope cap=true):CapOk N N' sc scope cap:=by
 unfold capB at h;simp only[ZH,Zq,Wf,Ya]at h;obtain⟨⟨⟨h1,b⟩,f⟩,d⟩:=h;refine⟨h1,λy a=>(b y a).1.1,λy a e=>?_,λy a e=>?_,f,λp c i e=>?_⟩
 ·rcases (b y a).1.2 with z|z
  ·exact absurd e z
  ·exact z
 ·rcases (b y a).2 with z|z
  ·exact absurd e z
  ·exact z
 ·have q:=d p c
  rw[e]at q;simp only[ZH,Wf,Ya]at q;exact q
def Nx (n i:Nat) (p:Prop):Prop:=∃ a,a<n-i/\a=n-(i+1)/\i+1<=n/\p
theorem nx {n i:Nat}{p:Prop}(h:i<n) (q:p):Nx n i p:=⟨n-(i+1),by lia,rfl,h,q⟩
theorem zcj {lo:Int}{n:Nat}{g:TG}{te:TE}{l:Addr}{σ:St}{H:Hp}{Q:VK}(a:Nat->List V->St->Hp->Prop) (j:a 0 [] σ H) (h:∀ i acc σ H,a i acc σ H->H l=some (.lst acc))
  (f:∀ i acc σ H,i<n->a i acc σ H->g (.int (lo+i)) σ H λb k=>te b k λy d=>d l=some (.lst acc)/\acc.length<sizeLine/\Nx n i (a (i+1) (acc++[y]) b (upd d l (.lst (acc++[y])))))
  (hd:∀ acc σ H,a n acc σ H->Q (.ref l) H):∃ W:Nat->Nat->List V->St->Hp->Prop,(∃ m,W 0 m [] σ H)/\LCW (Itr lo n) g tYes te l Q W:=by
 refine⟨λi m acc σ H=>m=n-i/\i<=n/\a i acc σ H,⟨n,by simp,JS _,j⟩,?_⟩;rintro i m acc σ H ⟨rfl,hi,p⟩;refine⟨h i acc σ H p,?_⟩;by_cases c:i<n
 ·refine .inr ⟨c,λx o ⟨e,y⟩=>?_⟩
  subst e y;exact f i acc σ _ c p
 ·have e:i=n:=by lia
  subst e;exact .inl ⟨Jg _,hd acc σ H p⟩
theorem zld {K:PySem.W.Frag}{b:Bool}{a:Addr}{xs:List V}{g:TG}{tb:TS}{D:Ends}{σ:St}{H:Hp}(c:Nat->St->Hp->Prop) (s:c 0 σ H) (o:∀ i σ H,i<=xs.length->c i σ H->SqB b K H a xs)
  (n:∀ i x σ H T,xs[i]?=some x->H T=none->c i σ H->g (.ref T) σ (upd H T (.tup [.int i,x])) λd j=>tb { D with nx:=c (i+1),ct:=c (i+1),bk:=D.nx } d j) (hd:∀ σ H,c xs.length σ H->D.nx σ H) :
  ∃ W:Nat->Nat->St->Hp->Prop,(∃ m,W 0 m σ H)/\∀ i m σ H,W i m σ H ->
   ((Ite K b a).stop i H/\D.nx σ H)\/((Ite K b a).go i H/\∃ N:St->Hp->Prop,(∀ f H',N f H'->∃ k,k<m/\W (i+1) k f H')/\∀ x H',(Ite K b a).yld i H x H'->g x σ H' λd j=>tb { D with nx:=N,ct:=N,bk:=D.nx } d j):=by
 refine⟨λi m σ H=>m=xs.length-i/\i<=xs.length/\c i σ H,⟨xs.length,by simp,JS _,s⟩,?_⟩;rintro i m σ H ⟨rfl,hi,p⟩;have q:=o i σ H hi p;by_cases h:i<xs.length
 ·refine .inr ⟨⟨xs,xs[i],q,J6 h⟩,c (i+1),λf H' l=>⟨xs.length-(i+1),by lia,rfl,h,l⟩,λx H' ⟨y,t,T,r,u,e2⟩=>?_⟩
  subst u e2;exact n i y σ H T (t xs q) r p
 ·have e:i=xs.length:=by lia
  subst e;exact .inl ⟨⟨xs,q,rfl⟩,hd σ H p⟩
section
variable {X:Cx}
def rEqT (K:PySem.W.Frag):R2:=λx y H Q=>∃ a b xs ys,x=.ref a/\y=.ref b/\SqT K H a xs/\SqT K H b ys/\xs.all zdo=true/\ys.all zdo=true/\Q (.bl ((List.range (min xs.length ys.length)).all (λj=>eqV (xs.getD j .non) (ys.getD j .non)) && xs.length == ys.length)) H
theorem zlz (t:X.A.units<cLine):OpR X (compareOp .Eq) (rEqT X.K):=by
 intro pins s σ H x y v u Q I n m h;obtain⟨a,b,xs,ys,rfl,rfl,ha,hb,C,B,q⟩:=h;cases n;cases m;obtain⟨its,i,r,_⟩:=I.tuple ha;obtain⟨f,g,p2,_⟩:=I.tuple hb;have l1:=i.length;have l2:=g.length;refine SeqAt.RcAt.tuples (e:=λj=>eqV (xs.getD j .non) (ys.getD j .non)) r p2 t (λj h1 w=>?_) X.prog X.w _ _ ?_
 ·have d:j<xs.length:=by simpa [l1] using h1
  have c:j<ys.length:=by simpa [l2] using w
  obtain⟨l,D,p⟩:=i.get (J6 d);obtain⟨k,e2,o⟩:=g.get (J6 c);have A:its.toArray[j]=l:=by simpa using (J9.mp D).2
  have z:f.toArray[j]=k:=by simpa using (J9.mp e2).2
  rw[A,z,Jb,Jb,J6 d,J6 c];exact zjD p o (Zq.mp C _ (Yr d)) (Zq.mp B _ (Yr c))
 ·rw[Jj,Jj,<- l1,<- l2]
  exact⟨.bl _,H,I,rfl,q⟩
theorem zgX {ns:List Int}{i:Nat}(h:i<ns.length):ns.getD i 0∈ns:=by
 rw[Jb,J6 h];exact Yr h
end
end L2
namespace L2
open PySem PySem.Spec PyProof.Rows Own
theorem zlB {K:PySem.W.Frag}{a:Addr}{xs:List V}{g:TG}{te:TE}{l:Addr}{σ:St}{H:Hp}{Q:VK}(b:Nat->List V->St->Hp->Prop) (o:b 0 [] σ H) (n:∀ i acc σ H,b i acc σ H->H l=some (.lst acc)/\SqT K H a xs)
  (k:∀ i x acc σ H,xs[i]?=some x->b i acc σ H->g x σ H λc q=>te c q λy h=>h l=some (.lst acc)/\acc.length<sizeLine/\Nx xs.length i (b (i+1) (acc++[y]) c (upd h l (.lst (acc++[y])))))
  (hd:∀ acc σ H,b xs.length acc σ H->Q (.ref l) H):∃ W:Nat->Nat->List V->St->Hp->Prop,(∃ m,W 0 m [] σ H)/\LCW (Itt K a) g tYes te l Q W:=by
 refine⟨λi m acc σ H=>m=xs.length-i/\i<=xs.length/\b i acc σ H,⟨_,rfl,JS _,o⟩,?_⟩;rintro i m acc σ H ⟨rfl,hi,p⟩;obtain⟨j,d⟩:=n i acc σ H p;refine⟨j,?_⟩;by_cases f:i<xs.length
 ·refine .inr ⟨⟨xs,xs[i],d,J6 f⟩,λx r ⟨e,y⟩=>?_⟩
  subst e;exact k i x acc σ _ (y xs d) p
 ·obtain rfl:i=xs.length:=by lia
  exact .inl ⟨⟨xs,d,Jg _⟩,hd acc σ H p⟩
theorem zmR {K:PySem.W.Frag}{a:Addr}{xs:List V}{g:TG}{te:TE}{l:Addr}{σ:St}{H:Hp}{Q:VK}(b:Nat->List V->St->Hp->Prop) (o:b 0 [] σ H) (n:∀ i acc σ H,b i acc σ H->H l=some (.lst acc)/\SqL K H a xs)
  (k:∀ i x acc σ H,xs[i]?=some x->b i acc σ H->g x σ H λc q=>te c q λy h=>h l=some (.lst acc)/\acc.length<sizeLine/\Nx xs.length i (b (i+1) (acc++[y]) c (upd h l (.lst (acc++[y])))))
  (hd:∀ acc σ H,b xs.length acc σ H->Q (.ref l) H):∃ W:Nat->Nat->List V->St->Hp->Prop,(∃ m,W 0 m [] σ H)/\LCW (Itl K a) g tYes te l Q W:=by
 refine⟨λi m acc σ H=>m=xs.length-i/\i<=xs.length/\b i acc σ H,⟨_,rfl,JS _,o⟩,?_⟩;rintro i m acc σ H ⟨rfl,hi,p⟩;obtain⟨j,d⟩:=n i acc σ H p;refine⟨j,?_⟩;by_cases f:i<xs.length
 ·refine .inr ⟨⟨xs,xs[i],d,J6 f⟩,λx r ⟨e,y⟩=>?_⟩
  subst e;exact k i x acc σ _ (y xs d) p
 ·obtain rfl:i=xs.length:=by lia
  exact .inl ⟨⟨xs,d,Jg _⟩,hd acc σ H p⟩
end L2
namespace L2
open PySem PySem.Spec PyProof.Rows PySem.Calls PySem.NumText Own
theorem zf2 {M:Model}{K:PySem.W.Frag}{h:Heap}(X:K.In h) (e:PySem.W.nsIn K cStatics "sys.int_max_str_digits" = some none):PySem.W.Looks M h Builtin.intMaxStrDigits 4300:=by
 show PySem.W.Looks M h (nsGet cStatics "sys.int_max_str_digits" >>= _) 4300;exact(PySem.W.looks_nsIn X e).andThen .now
theorem zlM {M:Model}{A:Around}{E:Value->Shared->Prop}{s:Shared}{Q:Value->Shared->Prop}{v:Value}{text:List Nat}{n:Int}
  (c:PySem.W.Looks M s.heap Builtin.intMaxStrDigits 4300) (a:¬(text.takeWhile (· != 0)).length<=640) (b:(int_private% "readNumeral") 4300 10 (text.takeWhile (· != 0))=(int_private% "Numeral.value") n)
  (ha:((text.takeWhile (· != 0)).length == text.length)=true) (h:Q (.int n s.toks) { s with toks:=s.toks+1 }):wpAny M A ((int_private% "intFromText") v text 10) Q E s:=by
 cases s
 repeat (any_goals (first|assumption|(with_reducible refine wpAny_ite_false (Jv a) ?_)|((with_reducible show wpAny _ _ Builtin.intMaxStrDigits _ _ _);refine PySem.W.Looks.at c ?_)|wp_step))
 all_goals (try (rw[b];dsimp only))
 repeat (any_goals (first|assumption|(with_reducible refine wpAny_ite_true (by rw[ha];rfl) ?_)|wp_step))
theorem zhz {K:PySem.W.Frag}{x:Str}{u:Tok}{n:Int}(e:PySem.W.nsIn K cStatics "sys.int_max_str_digits" = some none) (f:x.length<=4300) (g:¬(numSeenOf x).length<=640) (hn:intText? x=some n) :
  Meets (Builtin.«int.__new__» ⟨[.type "int",.str x u],[]⟩) (λ_ R s=>K.In s.heap/\R (.ok (.ret (.int n s.toks))) { s with toks:=s.toks+1 }) :=
 .of_wp λprog w A R s h=>by
  cases s with
  | mk j v y tk os =>
  obtain⟨i,h⟩:=h;have kinds:=And.intro PySem.W.KIN.str_int (And.intro PySem.W.KIN.str_idx PySem.W.KIN.str_trunc);obtain⟨t,r,q⟩:=kinds;have p:=F.conv_sub_int;have o:=F.madeHere_int;have ofText:typeOf (.str x u)=pure (.type "str"):=rfl;have d:PySem.W.Looks (model prog w) j Builtin.intMaxStrDigits 4300:=zf2 i e
  have c:(int_private% "readNumeral") 4300 10 (numSeenOf x)=(int_private% "Numeral.value") n/\((numSeenOf x).length == (numTextOf x).length)=true:=by
   rcases read4300 x (JX f (by decide)) with ⟨m,b,l,k⟩|⟨b,_⟩
   ·rw[hn]at b;cases b;exact⟨k,l⟩
   ·rw[hn]at b;cases b
  have a:=PySem.W.KIN.Hid.mk (And.intro d (And.intro g c));clear d g c f hn e i
  repeat (any_goals (first|assumption|((with_reducible show wpAny _ _ ((int_private% "intFromText") _ _ _) _ _ _);refine zlM a.out.1 a.out.2.1 a.out.2.2.1 a.out.2.2.2 ?_)|wp_step))
  all_goals (first|exact Exists.intro _ (And.intro rfl h)|skip)
section
variable {X:Cx}
theorem zfn (e:PySem.W.nsIn X.K cStatics "sys.int_max_str_digits" = some none):CallR X (.type "int") (λvs H Q=>∃ x:Str,vs=[.str x]/\AllDigits x.cps.toList/\640<x.length/\x.length<=4300/\Q (.int (digitsVal x.cps.toList:Nat)) H):=by
 intro pins s σ H vs us Q I i h;obtain⟨x,rfl,hd,l,a,q⟩:=h;obtain⟨u,rfl,t,rfl⟩:=i.one;have d:x.cps.toList.length=x.length:=by simp[Str.length]
 have ne:x.cps.toList≠[]:=λz=>by rw[z]at d;simp at d;lia
 have hn:=intText_digits hd ne a
 have seen:(numSeenOf x).length=x.length:=by
  rcases read4300 x (JX a (by decide)) with ⟨m,f,k,n⟩|⟨f,_⟩
  ·have b:x.cps.all (· < 128)=true:=by
    rw[<- Array.all_toList];refine Zq.mpr λc j=>?_;have:=(hd c j).2;exact JG (show c<128 by lia)
   have g:=eq_of_beq k;rw[g];show (if x.cps.all (· < 128)=true then x.cps.toList else _).length=_;rw[Jf b,d]
  ·rw[hn]at f;cases f
 exact call_int_1 (zhz (K:=X.K) e a (by lia) hn) ⟨I.kIn,(typeIs_int _ _ _),.int _,H,I.tok _,⟨_,rfl⟩,q⟩
theorem ziH:OpR X (binaryOp .Mult) (λx y H Q=>∃ (c:Nat) (n:Int),x=.str ⟨#[c]⟩/\y=.int n/\0<=n/\n<=100000/\∀ z:Str,z.cps.toList=List.replicate n.toNat c->Q (.str z) H):=by
 intro pins s σ H x y v u Q I g f h;obtain⟨c,n,rfl,rfl,i,n1,q⟩:=h;obtain⟨t,rfl⟩:=g;obtain⟨t',rfl⟩:=f;have one:(⟨#[c]⟩:Str).length=1:=rfl;refine PySem.P.mul_str (by rw[Jv (by lia),Jv (by lia)];rfl) (λa b=>?_) (λa b=>?_) ?_
 ·rw[one]
  have:(1:Int)<=(2 ^ 63-1) / n:=by
   rw[Int.le_ediv_iff_mul_le (by lia)];lia
  lia
 ·rw[one]
  exact Jv (by have:=JM;lia)
 ·by_cases a:n<1
  ·rw[Jf a]
   have e:n=0:=by lia
   subst e;exact⟨by decide,.str _,H,I.tok _,⟨_,rfl⟩,q _ rfl⟩
  ·rw[Ja a]
   by_cases b:n=1
   ·subst b
    rw[Jf (show ((1:Int) == 1 || (⟨#[c]⟩:Str).length == 0)=true from rfl)];exact⟨.str _,H,I,⟨_,rfl⟩,q _ rfl⟩
   ·have nb:¬(n == 1 || (⟨#[c]⟩:Str).length == 0)=true:=by simp[b,one]
    rw[Ja nb]
    have lst:∀ (k:Nat) (acc:Array Nat),((List.replicate k #[c]).foldl (·++·) acc).toList=acc.toList++List.replicate k c:=λk=>by
     induction k with
     | zero=>intro acc;simp
     | succ k ih=>intro acc;rw[Y5,ZQ,ih,Y5];simp
    have d:=lst n.toNat #[];refine⟨?_,.str _,H,I.tok _,⟨_,rfl⟩,q _ (by rw[d];rfl)⟩;have ln:=JR List.length d;simp only[Ju,Jn,Yh]at ln;show (Array.size _)<=sizeLine;rw[ln];have:=JM;simp;lia
end
end L2
namespace L2
open PySem PySem.Spec PyProof.Rows Own
def upTo (n:Nat):List V:=(List.range n).map λ(i:Nat)=>V.int i
theorem zd0 {acc:Array Value}{n:Nat}(h:ItemsOf (λi v=>∃ t,v=Value.int (0+i*1) t) acc n):Vals (upTo n) acc.toList:=by
 obtain⟨h1,c⟩:=h
 have go:∀ (l:List Value) (k:Nat),(∀ (j:Nat) (v:Value),l[j]?=some v->∃ t,v=Value.int ((k+j:Nat):Int) t)->Vals ((List.range l.length).map λ(i:Nat)=>V.int ((k+i:Nat):Int)) l:=by
  intro l
  induction l with
  | nil=>intro k _;exact .nil
  | cons x l ih =>
   intro k b;rw[JW,List.range_succ_eq_map,Y6,Zv];refine .cons (by obtain⟨t,e⟩:=b 0 x rfl;exact⟨t,e⟩) ?_
   have:=ih (k+1) λj v a=>by
    obtain⟨t,e⟩:=b (j+1) v (by simpa using a);exact⟨t,by rw[e];congr 1;lia⟩
   refine cast (JR (λz=>Vals z l) (Wj λi _=>?_)) this;show V.int ((k+1+i:Nat):Int)=V.int ((k+(i+1):Nat):Int)
   congr 2;lia
 have:=go acc.toList 0 λj v a=>by
  obtain⟨t,e⟩:=c j v (by simpa using a);exact⟨t,by rw[e];congr 1;lia⟩
 rw[Ju,h1]at this;unfold upTo;refine cast (JR (λz=>Vals z acc.toList) (Wj λi _=>?_)) this;show V.int ((0+i:Nat):Int)=V.int (i:Int);rw[Yw]
theorem zj7 (n:Nat):(upTo n).length=n:=by simp[upTo]
section
variable {X:Cx}
def znk (b:Bool) (ta:TA):TE:=λσ H Q=>ta σ H λvs H1=>∃ j:Nat,vs=[.int j]/\j<=100000/\∀ l,H1 l=none->Q (.ref l) (upd H1 l (if b=true then .lst (upTo j) else .tup (upTo j)))
theorem zkg {j:Nat}(h:j<=100000):Builtin.Range.small 0 (j:Int) 1=true:=small_one (by lia) (by lia) (by lia) (by lia)
theorem zl0 {j:Nat}:Builtin.Range.rangeSize 0 (j:Int) 1=((j:Nat):Int):=by rw[rangeSize_one];split<;>lia
theorem zeV {a:Expr}{ta:TA}{p p2 pos c:Pos}(B:X.calm=true) (r:Gl X "list") (l:X.mg "list" = none) (m:Gl X "range") (k:X.mg "range" = none) (ha:PA X [a] ta) (A:starEach [a] X.env=[(false,eval a X.env)]:=by rfl)
  (d:starEach [.Call (.Name "range" p2) [a] [] c] X.env=[(false,eval (.Call (.Name "range" p2) [a] [] c) X.env)]:=by rfl):PE X (.Call (.Name "list" p) [.Call (.Name "range" p2) [a] [] c] [] pos) (znk true ta):=by
 intro pins s σ H Q I h;refine Ze (zbA I r l (u:=.type "list") (by rfl) (Yk ?_ d rfl));rw[d];refine Zu (Call_ (zbA I m k boot_range (Yk (thn (ha c pins s σ H _ I h) λus s1 ⟨vs,H1,i,v,w⟩=>?_) A rfl)));obtain⟨j,rfl,g,q⟩:=w;obtain⟨u,rfl,t,rfl⟩:=v.one;refine call_range_1 (ZW ?_);refine call_list_range (n:=j) (i.ok.hd B) (IsRange.new ..) (zkg g) zl0 (JX g (by decide)) λh' tk f C x e it=>?_;have y:∀ b o,s1.heap.get? b=some o->h'.get? b=some o:=λb o z=>x b o (J8 _ z);refine⟨.ref _,_,i.laid (t':=tk) (o:=.lst (upTo j)) y ?_ ⟨by rw[zj7];exact JX g (by decide),f.toList,C,zd0 it,by simpa using e⟩,rfl,q _ (i.hok.fresh ?_)⟩
 all_goals (show s1.heap.objs.size<=(s1.heap.push _).objs.size;rw[Z4];exact Nat.le_succ _)
theorem zly (f:X.A.units<cLine):OpR X (compareOp .NotEq) (λx y H Q=>∃ a b xs,x=.ref a/\y=.ref b/\SqL X.K H a xs/\SqL X.K H b []/\Q (.bl (!xs.isEmpty)) H):=by
 intro pins s σ H x y v u Q I i g h;obtain⟨a,b,xs,rfl,rfl,ha,hb,q⟩:=h;cases i;cases g;obtain⟨its,c,d,_⟩:=I.list ha;obtain⟨l,k,p2,_⟩:=I.list hb;cases k;have l1:=c.length
 cases xs with
 | nil =>
  cases c
  exact SeqAt.RcNeAt.lists (e:=λ_=>true) d.isList p2.isList rfl f (λj h=>absurd h (Nat.not_lt_zero _)) X.prog X.w _ _ ⟨.bl _,H,I,rfl,q⟩
 | cons z zs =>
  exact SeqAt.RcNeAt.lists_lengths d.isList p2.isList (by rw[Jj,<- l1];simp) f X.prog X.w _ _ ⟨.bl _,H,I,rfl,q⟩
end
section
variable {prog:Program}{w:World}{A:Around}{E:Value->Shared->Prop}{s:Shared}
theorem zfu {sl:Addr}{t:Tok}{Q:Int × Int × Nat->Shared->Prop}(c:s.heap.IsSliceOf sl .none .none (.int (-1) t)) (h:Q (1,-1,2) s):wpAny (model prog w) A (Builtin.Slice.sliceApplied (.ref sl) (pure (2:Int))) Q E s:=by
 obtain⟨os,a,d,b⟩:=id c;unfold Builtin.Slice.sliceApplied Builtin.Slice.sliceFields;refine J0 (J0 (Z3 a b (x:=.none) rfl (J0 (Z3 a b (x:=.none) rfl (J0 (Z3 a b (x:=.int (-1) t) rfl (J7 ?_)))))));refine J0 (slicePart_int ?_);show wpAny _ _ (if ((-1:Int) == 0)=true then _ else _) _ _ s;rw[Ja (by decide)];refine J0 (Ws (J0 (Ws (J0 (J7 ?_)))));show wpAny _ _ (match Builtin.Slice.sliceAdjust none none (-1) (2:Int) with|(lo,hi)=>pure (lo,(-1:Int),Builtin.Slice.slicePlaces lo hi (-1))) _ _ s;have e:Builtin.Slice.sliceAdjust none none (-1) (2:Int)=(1,-1):=by decide
 rw[e];have e2:Builtin.Slice.slicePlaces (1:Int) (-1) (-1)=2:=by decide
 show wpAny _ _ (pure ((1:Int),(-1:Int),Builtin.Slice.slicePlaces (1:Int) (-1) (-1))) _ _ s;rw[e2];exact J7 h
theorem zcO {t sl:Addr}{x y:Value}{tk:Tok}{Q:Value->Shared->Prop}(a:IsTup s.heap t #[x,y]) (e:s.heap.IsSliceOf sl .none .none (.int (-1) tk)) (h:Q (.ref s.heap.objs.size) { s with heap:=s.heap.push { cls:=.type "tuple",data:=.seq #[y,x] } }) :
  wpAny (model prog w) A (getItem (.ref t) (.ref sl)) Q E s:=by
 obtain⟨os,b,c,g⟩:=id e;have d:s.TypeIs (.ref sl) "slice":=⟨os,b,c⟩;unfold getItem
 try with_reducible refine Y1 ?_
 first|refine J0 (J7 ?_)|skip
 refine J0 (wpAny_sequenceKey a.typeIs (by decide) (J0 (wpAny_callSpecial?_slot (name:=Str.ofString "__getitem__") a.typeIs Yu (JV Yu a.typeIs PyProof.Rows.entry_tuple_getitem ?_ (PyProof.Rows.args_tuple_getitem _ _)))));show wpAny _ _ (Builtin.Tuple.tupleItemsOf (.ref t) >>= _) _ _ s;refine J0 (tupleItemsOf_ a (J0 (YQ d ?_)));rw[Jf (by decide)];refine J0 (zfu e ?_);show wpAny _ _ (if ((1:Int) == 0 && (-1:Int) == 1 && (2:Nat) == 2)=true then _ else _) _ _ s;rw[Ja (by decide)];have f:((List.range 2).filterMap λ(k:Nat)=>(#[x,y]:Array Value)[((1:Int)+(k:Int)*(-1)).toNat]?).toArray = #[y,x]:=rfl;rw[f]
 first
  | exact J0 (m:=Builtin.Tuple.tupleExact _) (JQ (J7 ⟨_,rfl,J7 h⟩) (by show 2<=sizeLine;decide))
  | exact J0 (m:=Builtin.Tuple.tupleExact _) (JQ (J0 (J7 (J7 ⟨_,rfl,J7 h⟩))) (by show 2<=sizeLine;decide))
  | exact J0 (J0 (m:=Builtin.Tuple.tupleExact _) (JQ (J7 (J7 ⟨_,rfl,J7 h⟩)) (by show 2<=sizeLine;decide)))
  | exact J0 (J0 (m:=Builtin.Tuple.tupleExact _) (JQ (J7 ⟨_,rfl,J7 h⟩) (by show 2<=sizeLine;decide)))
end
section
variable {X:Cx}
def zok (K:PySem.W.Frag) (te:TE) (ts:TO):TE:=λσ H Q=>te σ H λx H1=>ts σ H1 λo b=>o=some (-1)/\∃ a u v,x=.ref a/\SqT K b a [u,v]/\∀ p,b p=none->Q (.ref p) (upd b p (.tup [v,u]))
theorem ziF {e st:Expr}{te:TE}{ts:TO}{p2 pos:Pos}(y:PE X e te) (u:PO X (some st) ts):PE X (.Subscript e (.Slice none none (some st) p2) pos) (zok X.K te ts):=by
 intro pins s σ H Q I h;refine Subscript_ (thn (y pins s σ H _ I h) λv s1 ⟨x,H1,C,m,p⟩=>wpAny_Slice ?_);rw[evalPart_none];refine J7 (J7 (thn (u pins s1 σ H1 _ C p) λd s2 ⟨o,D,B,po,n⟩=>?_));obtain⟨rfl,a,l,j,rfl,w,k⟩:=n;cases m;obtain⟨t,rfl⟩:∃ t,d=.int (-1) t:=by cases po;exact⟨_,rfl⟩
 have c:Inv X pins σ D { s2 with heap:=s2.heap.push { cls:=.type "slice",data:=.fields #[.none,.none,.int (-1) t] } }:=B.kept (t':=s2.toks) λb ob q=>J8 _ q;obtain⟨its,r,f,hz⟩:=c.tuple w;obtain⟨i,g,rfl,A,z⟩:=r.two;show wpAny (model X.prog X.w) X.A (subscriptTail e (.Slice none none (some st) p2) (.ref a) (.ref s2.heap.objs.size)) (EP X pins σ Q) X.xe { s2 with heap:=s2.heap.push { cls:=.type "slice",data:=.fields #[.none,.none,.int (-1) t] } };refine tail_any (ops:=[.ref a,.ref s2.heap.objs.size]) f.typeIs PyProof.Rows.slot_tuple_getitem.lookup (zcO f (Wt ..) ?_) (by with_unfolding_all rfl);exact⟨.ref _,_,c.laid (t':=s2.toks) (o:=.tup [j,l]) (λb ob q=>J8 _ q) (Jg _) ⟨by show 2<=sizeLine;decide,[g,i],.cons z (.cons A .nil),TupX.new _ _⟩,rfl,k _ (c.hok.fresh (Jg _))⟩
end
theorem zhy (l:Addr) (o:Obj) (items:Array Value) (n:Nat) (x:Value) (j:Nat) (y:o.cls=.type "tuple") (hd:o.data=.seq items n) (e:Nat->Bool) (p:∀ i,i<j->e i=false) (h1:e j=true) (v:j<items.size) :
  Meets (Builtin.«tuple.index» ⟨[.ref l,x],[]⟩) (λA R s=>s.heap.get? l=some o/\(∀ i (h:i<items.size),SeqAt.EqAt A.in1 s items[i] x (e i))/\R (.ok (.ret (.int j s.toks))) { s with toks:=s.toks+1 }) :=
 .of_wp λprog w A R s h=>by
  cases s with
  | mk f r u tk os =>
  obtain⟨g,m,h⟩:=h;unfold Builtin.«tuple.index»;simp only[Std.Legacy.Range.forIn_eq_forIn_range']
  wp_walk using Y3 g hd,wpAny_forIn_list _ (λrest b s'=>s'=⟨f,r,u,tk,os⟩/\b.1=none/\∃ i,i<=j/\rest=List.range' i (items.size-i)) _
  case turn =>
   rintro i rest b s' ⟨rfl,hb,a,hi,hz⟩;have d:items.size-a=(items.size-(a+1))+1:=by lia
   rw[d,List.range'_succ]at hz;injection hz with t e2;subst t;have c:i<items.size:=by lia
   have k:items[i]?=some items[i]:=by simp[c]
   simp only[k];refine J0 (m i c prog w _ _ ?_);by_cases q:i=j
   ·subst q;rw[h1];wp_walk;exact⟨_,rfl,h⟩
   ·rw[p i (by lia)];wp_walk;exact⟨rfl,rfl,i+1,by lia,e2⟩
  case fin =>
   rintro b s' ⟨rfl,hb,a,hi,hz⟩;have:=JR List.length hz;simp at this;lia
  case h=>exact⟨rfl,rfl,0,JS _,by simp[Std.Legacy.Range.size]⟩
section
variable {X:Cx}
theorem zdT:∀ {ns:List Int}{k:Int}{i:Nat},i<ns.idxOf k->(ns.getD i 0 == k)=false
 | [],k,i,h=>by simp at h
 | n::ns,k,i,h=>by
  rw[List.idxOf_cons]at h
  cases e:n == k with
  | true=>rw[e]at h;simp at h
  | false =>
   rw[e]at h;simp only[cond_false]at h
   cases i with
   | zero=>exact e
   | succ i=>exact zdT (ns:=ns) (i:=i) (by lia)
def zn9 (to:TE) (t:TA):TE:=λσ H Q=>to σ H λx H1=>∃ a ns,x=.ref a/\H1 a=some (.tup (List.map V.int ns))/\t σ H1 λvs b=>∃ k:Int,vs=[.int k]/\b a=some (.tup (List.map V.int ns))/\k∈ns/\Q (.int (ns.idxOf k:Nat)) b
theorem zml {o e:Expr}{to:TE}{t:TA}{apos cpos:Pos}(S:X.A.units+64<cLine) (K:PE X o to) (ha:PA X [e] t)
  (d:attributeBase o "index" X.env (eval o X.env)=eval o X.env:=by rfl)
  (j:((backTo cpos (starEach [e] X.env)).all (λx=>!x.1) && (backToKw cpos (keywordEach [] X.env)).all (λx=>x.1.isSome) && decide ([e].length+([]:List Keyword).length+(if ([]:List Keyword).isEmpty then 0 else 1)<30))=true:=by rfl)
  (c:(apos.endLine == cpos.line)=true:=by rfl) (J:starEach [e] X.env=(false,eval e X.env)::starEach [] X.env:=by rfl):PE X (.Call (.Attribute o "index" apos) [e] [] cpos) (zn9 to t):=by
 intro pins s σ H Q I h;refine wpAny_Call_method_late d j c rfl (thn (K pins s σ H _ I h) λv s1 ⟨x,H1,A,D,a,ns,ex,G,E⟩=>?_);subst ex;cases D;obtain⟨_,its,_,⟨ob,w,P,n1,T,nd⟩⟩:=(show ObjOk X.prog X.w H1 s1.heap a (.tup (List.map V.int ns)) from A.hok a _ G);refine⟨"tuple","tuple.index",PySem.F.plainAttrs_tuple,PySem.F.slot_tuple_index,PySem.F.type_tuple_index,⟨ob,w,P⟩,λU N=>by cases N;exact⟨ob,w,nd⟩,?_⟩;have r:=ha cpos pins s1 σ H1 _ A E;rw[J]at r ⊢;refine ZX rfl (Calls.evalArgs_plain ?_);refine thn r λus s2 ⟨vs,B,z,C,k,ev,l,F,q⟩=>?_;subst ev;obtain⟨u,rfl,tk,rfl⟩:=C.one;obtain⟨_,b,n,⟨f,g,y,n2,O,nd2⟩⟩:=(show ObjOk X.prog X.w B s2.heap a (.tup (List.map V.int ns)) from z.hok a _ l);have hlen:b.toArray.size=ns.length:=by rw[Jj,<- n.length,Jm]
 have p:=List.idxOf_lt_length_of_mem F
 refine Wu PySem.F.slot_tuple_index ⟨f,g,y⟩ PySem.F.entry_tuple_index (PySem.F.args_tuple_index_2 _ _)
  (zhy a f b.toArray n2 (.int k tk) (ns.idxOf k) y O (λi=>ns.getD i 0 == k) (λi hi=>?_) ?_ (by rw[hlen];exact p)) ⟨g,λi hi=>?_,?_⟩
 ·exact zdT hi
 ·rw[Jb,J6 p]
  simp
 ·have m:i<ns.length:=by rw[<- hlen];exact hi
  obtain⟨R,M,t1,rfl⟩:=n.get (show (List.map V.int ns)[i]?=some (V.int (ns.getD i 0)) by rw[JL,Jb,J6 m];rfl);have L:b.toArray[i]=.int (ns.getD i 0) t1:=by simpa using (J9.mp M).2
  rw[L];exact(MeetsSeq.EqGives.int _ _ _ _).at _ _
 ·exact⟨.int _,B,z.tok _,⟨_,rfl⟩,q⟩
end
theorem zfU:fillsNumberSlot (.type "tuple") "mul" = pure false :=
 PySem.fillsNumberSlot_seq (id:="tuple.__mul__") (r:=some (.builtin "tuple.__rmul__")) F.slot_tuple_mul.lookup (by decide +kernel) F.slot_tuple_rmul.lookup (by decide +kernel)
theorem zhh:seqRepeat? (.type "tuple")=pure (some (.builtin "tuple.__mul__")):=by
 unfold seqRepeat?;rw[PySem.seqSlot_of (T:="tuple") (name:="__mul__") (id:="tuple.__mul__") F.slot_tuple_mul.lookup (by decide +kernel),PySem.seqSlot_of (T:="tuple") (name:="__rmul__") (id:="tuple.__rmul__") F.slot_tuple_rmul.lookup (by decide +kernel)];rfl
theorem zlg (a:Int) (t:Tok) (l:Addr) (c:Option Addr) (sl:Array (Option Value)) (items:Array Value) (n:Nat) :
  Meets (Builtin.«int.__rmul__» ⟨[.int a t,.ref l],[]⟩) (λ_ R s=>s.heap.get? l=some { cls:=.type "tuple",dict:=c,data:=.seq items n,slots:=sl }/\R (.ok (.ret Value.notImplemented)) s) :=
 .of_wp λprog w A R s h=>by
  cases s;obtain⟨b,h⟩:=h
  wp_walk using WC b
  exact⟨_,rfl,h⟩
theorem zhx (l:Addr) (o:Obj) (x:Value) (n k:Nat) (t:Tok) (p:o.cls=.type "tuple") (hd:o.data=.seq #[x] n) (B:k<=100000) :
  Meets (Builtin.«tuple.__mul__» ⟨[.ref l,.int k t],[]⟩) (λ_ R s=>s.heap.get? l=some o /\
   (k=1->R (.ok (.ret (.ref l))) s)/\(k≠1->R (.ok (.ret (.ref s.heap.objs.size))) { s with heap:=s.heap.push { cls:=.type "tuple",data:=.seq (List.replicate k x).toArray } })) :=
 .of_wp λprog w A R s h=>by
  cases s with
  | mk j q u tk os =>
  obtain⟨b,r,f⟩:=h;have ty:Shared.TypeIs ⟨j,q,u,tk,os⟩ (.ref l) "tuple":=⟨o,b,p⟩
  wp_walk using Y3 b hd,YQ ty
  have z:¬(decide ((k:Int) < -2 ^ 63) || decide ((k:Int)>=2 ^ 63))=true:=by
   rw[Jv (by lia),Jv (by lia)];exact Jq
  rw[Ja z]
  wp_walk using Y3 b hd,YQ ty
  by_cases a:k=1
  ·have d:((#[x]:Array Value).isEmpty || (k:Int) == 1)=true:=by subst a;rfl
   rw[Jf d]
   wp_walk using YQ ty
   exact⟨_,rfl,r a⟩
  ·have d:¬((#[x]:Array Value).isEmpty || (k:Int) == 1)=true:=by
    have:((k:Int) == 1)=false:=by rw[ZL];lia
    rw[this];exact Jq
   rw[Ja d]
   have fl:∀ (m:Nat) (acc:Array Value),(List.foldl (λi g=>i++g) acc (List.replicate m #[x]))=acc++(List.replicate m x).toArray:=λm=>by
    induction m with
    | zero=>intro acc;simp
    | succ m ih=>intro acc;rw[Y5,ZQ,ih,Y5];apply Array.ext';simp
   by_cases k0:k=0
   ·subst k0
    have c:(decide (((0:Nat):Int)<=0) || (#[x]:Array Value).isEmpty)=true:=rfl;rw[Jf c]
    wp_walk
    exact⟨_,rfl,f (by decide)⟩
   ·have c:¬(decide ((k:Int)<=0) || (#[x]:Array Value).isEmpty)=true:=by
     rw[Jv (by lia)];exact Jq
    have y:¬(((#[x]:Array Value).size:Int)*(k:Int) > (2 ^ 63-1) / 8):=by
     show ¬((1:Int)*(k:Int) > (2 ^ 63-1) / 8);lia
    have v:¬ Builtin.Tuple.tupleTooMany (((#[x]:Array Value).size:Int)*(k:Int))=true:=by
     unfold Builtin.Tuple.tupleTooMany;show ¬ decide ((1:Int)*(k:Int) > (sizeLine:Int))=true;rw[Jv (by rw[JM];lia)];exact Jq
    rw[Ja c,Ja y,Ja v,Yt,fl];refine J0 (m:=Builtin.Tuple.tupleExact _) (JQ (J7 ⟨_,rfl,?_⟩) ?_)
    ·have e:(#[]++(List.replicate k x).toArray:Array Value)=(List.replicate k x).toArray:=by simp
     rw[e];exact f a
    ·show (#[]++(List.replicate k x).toArray:Array Value).size<=sizeLine
     rw[JM];simp;lia
section
variable {X:Cx}
theorem Vals.same {v:V}{u:Value}(r:RelV v u):∀ k:Nat,Vals (List.replicate k v) (List.replicate k u)
 | 0=>.nil
 | k+1=>by rw[Y5,Y5];exact .cons r (Vals.same r k)
theorem zmq:OpR X (binaryOp .Mult) (λx y H Q=>∃ a v,∃ k:Nat,x=.ref a/\y=.int k/\H a=some (.tup [v])/\k<=100000/\∀ r H',Same H H'->H' r=some (.tup (List.replicate k v))->Q (.ref r) H'):=by
 intro pins s σ H x y w p Q I l j h;obtain⟨a,v,k,rfl,rfl,ha,n,q⟩:=h;cases l;obtain⟨t,rfl⟩:=j;obtain⟨_,its,r,⟨⟨c,A,d,sl⟩,f,i,n1,g,nd⟩⟩:=(show ObjOk X.prog X.w H s.heap a (.tup [v]) from I.hok a _ ha);simp only at i g nd;subst i g nd;obtain⟨u,rfl,m⟩:=r.one
 refine wpAny_binaryOp_repeat_ref (T:="tuple") (U:="int") (by decide) ⟨_,f,rfl⟩ (λs'=>typeIs_int s' k t) zfU F.fills_int_mul F.slot_int_rmul zhh F.slot_int_index.lookup
  (Wu F.slot_int_rmul (typeIs_int s k t) F.entry_int_rmul (F.args_int_rmul_2 _ _) (zlg k t a none sl _ n1)
   ⟨f,rfl,⟨_,f,rfl⟩,Wu F.slot_tuple_mul ⟨_,f,rfl⟩ F.entry_tuple_mul (F.args_tuple_mul_2 _ _) (zhx a _ u n1 k t rfl rfl n) ⟨f,λe=>?_,λe=>?_⟩⟩)
 ·subst e
  exact⟨.ref a,H,I,rfl,q a H (Same.refl H) ha⟩
 ·have hz:(List.replicate k v).length<=sizeLine:=by rw[Yh,JM];lia
  exact⟨.ref s.heap.objs.size,_,I.laid (t':=s.toks) (o:=.tup (List.replicate k v)) (λb ob z=>J8 _ z) (Jg _) ⟨hz,_,Vals.same m k,TupX.new _ _⟩,rfl,q _ _ (zac (I.hok.fresh (Jg _)) _) zab⟩
end
end L2
namespace Bn
open PySem L2 Own
def Tups (H H':Hp):Prop:=∀ a xs,H a=some (.tup xs)->H' a=some (.tup xs)
theorem Tups.trans {H H1 b:Hp}(x:Tups H H1) (y:Tups H1 b):Tups H b:=λa xs e=>y a xs (x a xs e)
theorem Tups.of {H H':Hp}(s:Same H H'):Tups H H':=λa _ e=>s a _ e
theorem Tups.lst {H:Hp}{l:Addr}{xs ys:List V}(h:H l=some (.lst xs)):Tups H (upd H l (.lst ys)):=λa zs e=>by
 rw[zag (by rintro rfl;rw[h]at e;cases e)];exact e
def But (l:Addr) (H H':Hp):Prop:=∀ b o,H b=some o->b≠l->H' b=some o
theorem But.trans {l:Addr}{H H1 a:Hp}(x:But l H H1) (y:But l H1 a):But l H a:=λb o e n=>y b o (x b o e n) n
theorem But.of {l:Addr}{H H1:Hp}(x:Same H H1):But l H H1:=λb o e _=>x b o e
structure PkAt (H:Hp) (l:Addr):Prop where
 ex:∃ a b:Int,H l=some (.lst [.int a,.int b])/\0<=a/\0<=b/\b<2 ^ 31
theorem PkAt.keep {H H':Hp}{l:Addr}(S:PkAt H l) (s:Same H H'):PkAt H' l:=by
 obtain⟨a,b,h,r⟩:=S.ex;exact⟨a,b,s _ _ h,r⟩
theorem PkAt.ne {H:Hp}{l p:Addr}(S:PkAt H l) (h:H p=none):l≠p:=by
 obtain⟨a,b,e,_⟩:=S.ex;exact zae e h
theorem PkAt.upd {H:Hp}{l p:Addr}{o:HO}(S:PkAt H l) (h:l≠p):PkAt (upd H p o) l:=by
 obtain⟨a,b,e,r⟩:=S.ex;exact⟨a,b,by rw[zag h];exact e,r⟩
theorem But.tups {H H':Hp}{l:Addr}(x:But l H H') (S:PkAt H l):Tups H H':=λa xs e=>x a _ e (by
 rintro rfl;obtain⟨_,_,z,_⟩:=S.ex
 rw[z]at e;cases e)
def Prs (H:Hp):List V->List (Nat × Nat)->Prop
 | [],[]=>True
 | p::ps,f::fs=>(∃ a,p=.ref a/\H a=some (.tup [.int f.1,.int f.2]))/\Prs H ps fs
 | _,_=>False
theorem Prs.tups {H H':Hp}(t:Tups H H'):∀ {ps:List V}{fs:List (Nat × Nat)},Prs H ps fs->Prs H' ps fs
 | [],[],_=>trivial
 | _::_,_::_,⟨⟨a,e,h⟩,r⟩=>⟨⟨a,e,t _ _ h⟩,r.tups t⟩
theorem Prs.len {H:Hp}:∀ {ps:List V}{fs:List (Nat × Nat)},Prs H ps fs->ps.length=fs.length
 | [],[],_=>rfl
 | _::_,_::_,⟨_,r⟩=>JR (· + 1) r.len
theorem Prs.add {H:Hp}{a:Addr}{f:Nat × Nat}(h:H a=some (.tup [.int f.1,.int f.2])):∀ {ps:List V}{fs:List (Nat × Nat)},Prs H ps fs->Prs H (ps++[.ref a]) (fs++[f])
 | [],[],_=>⟨⟨a,rfl,h⟩,trivial⟩
 | _::_,_::_,⟨x,r⟩=>⟨x,r.add h⟩
theorem Prs.get {H:Hp}:∀ {ps:List V}{fs:List (Nat × Nat)}{i:Nat}{p:V},Prs H ps fs->ps[i]?=some p->∃ a f,p=.ref a/\fs[i]?=some f/\H a=some (.tup [.int f.1,.int f.2])
 | [],[],_,_,_,e=>by simp at e
 | _::_,f::_,0,p,⟨⟨a,b,h⟩,_⟩,e=>by
  have:_=p:=Js e;subst this
  exact⟨a,f,b,rfl,h⟩
 | _::_,_::_,i+1,p,⟨_,r⟩,e=>r.get (i:=i) (by simpa using e)
structure Nt where
 lanes:Nat
 forks:List (Nat × Nat)
 ends:List Nat
structure Nt.Ok (N:Nt):Prop where
 l1:1<=N.lanes
 l16:N.lanes<=16
 fm:N.forks.length<=128
 fk:∀ f∈N.forks,f.1<N.lanes/\f.2<N.lanes/\f.1≠f.2
 en:N.ends.Perm (List.range N.lanes)
def nums (es:List Nat):List V:=es.map λ(e:Nat)=>V.int e
structure NetAt (H:Hp) (r fr er:Addr) (ps:List V) (N:Nt):Prop where
 net:H r=some (.tup [.int N.lanes,.ref fr,.ref er])
 forks:H fr=some (.tup ps)
 prs:Prs H ps N.forks
 ends:H er=some (.tup (nums N.ends))
theorem NetAt.tups {H H':Hp}{r fr er:Addr}{ps:List V}{N:Nt}(t:Tups H H') (h:NetAt H r fr er ps N):NetAt H' r fr er ps N:=⟨t _ _ h.net,t _ _ h.forks,h.prs.tups t,t _ _ h.ends⟩
def zaN (st:List Int × List Int) (f:Nat × Nat):List Int × List Int :=
 ((st.1.set f.1 ((st.1.getD f.1 0+st.1.getD f.2 0+1) / 2)).set f.2 ((st.1.getD f.1 0+st.1.getD f.2 0) / 2),st.2++[(st.1.getD f.1 0+st.1.getD f.2 0)%2])
def zaM (st:List Int × List Int) (fs:List (Nat × Nat)):List Int × List Int:=fs.foldl zaN st
def flow (fs:List (Nat × Nat)) (cs:List Int):List Int × List Int:=zaM (cs,[]) fs
def za3 (N:Nt) (cs:List Int):List Int:=N.ends.map λe=>(flow N.forks cs).1.getD e 0
def zbf (N:Nt) (cs:List Int):List Int:=(flow N.forks cs).2
theorem zjy (fs:List (Nat × Nat)) (f:Nat × Nat) (cs:List Int):flow (fs++[f]) cs=zaN (flow fs cs) f:=by
 unfold flow zaM;rw[Z6];rfl
theorem zaS (st:List Int × List Int) (f:Nat × Nat):(zaN st f).1.length=st.1.length:=by simp[zaN]
theorem zbR:∀ (fs:List (Nat × Nat)) (st:List Int × List Int),(zaM st fs).1.length=st.1.length/\(zaM st fs).2.length=st.2.length+fs.length
 | [],st=>⟨rfl,rfl⟩
 | f::fs,st=>by
  have h:=zbR fs (zaN st f);refine⟨h.1.trans (zaS st f),h.2.trans ?_⟩;simp[zaN];lia
theorem zbG (fs:List (Nat × Nat)) (cs:List Int):(flow fs cs).1.length=cs.length:=(zbR fs (cs,[])).1
theorem za7 (fs:List (Nat × Nat)) (cs:List Int):(flow fs cs).2.length=fs.length:=by
 have:=(zbR fs (cs,[])).2;simpa [flow] using this
theorem zbQ {fs:List (Nat × Nat)}{i:Nat}{f:Nat × Nat}(h:fs[i]?=some f) (cs:List Int):flow (fs.take (i+1)) cs=zaN (flow (fs.take i) cs) f:=by
 have w:=J9.mp h;obtain⟨hi,e⟩:=w;rw[Y7 hi,zjy,e]
theorem zfA:∀ (xs:List Int) (i:Nat) (a:Int),i<xs.length->(xs.set i a).sum=xs.sum-xs.getD i 0+a
 | [],i,a,h=>by simp at h
 | x::xs,0,a,_=>by simp;lia
 | x::xs,i+1,a,h=>by
  have:=zfA xs i a (by simpa using h);simp only[List.set_cons_succ,List.sum_cons,this,List.getD_cons_succ];lia
theorem zcc {xs:List Int}{i p:Nat}{a:Int}(h:p<xs.length):(xs.set i a).getD p 0=if i=p then a else xs.getD p 0:=by
 rw[Jb,List.getElem?_set];by_cases e:i=p
 ·subst e;simp[h]
 ·simp[e]
theorem znY (c:Int):(c+1) / 2+c / 2=c:=by lia
theorem zh7 {st:List Int × List Int}{f:Nat × Nat}(h1:f.1<st.1.length) (a:f.2<st.1.length) (ne:f.1≠f.2):(zaN st f).1.sum=st.1.sum:=by
 unfold zaN;simp only;rw[zfA _ _ _ (by rw[Z9];exact a),zfA _ _ _ h1,zcc a,Ja ne];have:=znY (st.1.getD f.1 0+st.1.getD f.2 0);lia
theorem zcP:∀ (fs:List (Nat × Nat)) (st:List Int × List Int),(∀ f∈fs,f.1<st.1.length/\f.2<st.1.length/\f.1≠f.2)->(zaM st fs).1.sum=st.1.sum
 | [],st,_=>rfl
 | f::fs,st,h=>by
  have a:=h f JC
  have:=zcP fs (zaN st f) λg b=>by
   rw[zaS];exact h g (JB _ b)
  exact this.trans (zh7 a.1 a.2.1 a.2.2)
theorem zkc {xs ys:List Int}(h:xs.Perm ys):xs.sum=ys.sum:=by
 induction h with
 | nil=>rfl
 | cons x _ ih=>simp[ih]
 | swap x y l=>simp;lia
 | trans _ _ a b=>exact a.trans b
theorem zdA (xs:List Int):(List.range xs.length).map (λe=>xs.getD e 0)=xs:=by
 refine W5 (by simp) λi h1 a=>?_;rw[List.getElem_map,List.getElem_range,Jb,J6 a];rfl
theorem zlf {N:Nt}(ok:N.Ok) {cs:List Int}(h:cs.length=N.lanes):(za3 N cs).sum=cs.sum:=by
 unfold za3;rw[zkc (ok.en.map _)];have e:N.lanes=(flow N.forks cs).1.length:=by rw[zbG,h]
 rw[e,zdA]
 exact zcP N.forks (cs,[]) λf a=>by
  have:=ok.fk f a;simp only[h];exact this
theorem zjF {N:Nt}(ok:N.Ok) {e:Nat}(h:e∈N.ends):e<N.lanes:=YN.mp (ok.en.mem_iff.mp h)
theorem zg0 {N:Nt}(ok:N.Ok):N.ends.length=N.lanes:=by rw[ok.en.length_eq,YG]
theorem zbT {cs:List Int}{i:Nat}(h:i<cs.length):atI (cs.map V.int) ((i:Nat):Int)=some (.int (cs.getD i 0)):=by
 refine zb6 ?_;rw[JL,Jb,J6 h];rfl
theorem ze9 {α:Type}{xs:List α}{i:Nat}(h:i<xs.length):ixN xs.length ((i:Nat):Int)=some i:=by
 unfold ixN;rw[Jf (by lia),Jf (by lia)];simp
theorem zbE (cs:List Int) (i:Nat) (a:Int):(cs.map V.int).set i (.int a)=(cs.set i a).map V.int:=by rw[List.map_set]
structure Mgs (mg:Str->Option Value):Prop where
 len:mg "len" = none
 range:mg "range" = none
 tuple:mg "tuple" = none
 enum:mg "enumerate" = none
 abs:mg "abs" = none
 zip:mg "zip" = none
 isi:mg "isinstance" = none
 all:mg "all" = none
 sum:mg "sum" = none
 bool:mg "bool" = none
 int:mg "int" = none
 str:mg "str" = none
 max:mg "max" = none
 min:mg "min" = none
 sorted:mg "sorted" = none
 list:mg "list" = none
structure Use (P:Program) (w:World) (K:PySem.W.Frag) (mg:Str->Option Value) (base:Heap) (x:Str) (ps:List Str) (k:Nat) (sp:Sp) (f:Addr) (fd:FuncData):Prop where
 ok:FnOk P w K mg base CX0 k f fd ps sp
 b:Binds K fd ps []
 kp:PySem.W.keepIn K (.ref f)=true
 m:mg x=some (.ref f)
def zih (K:PySem.W.Frag):Sp:=λvs H Q _=>∃ (a:Addr) (ns:List Int) (k:Int),vs=[.ref a,.int k]/\SqL K H a (ns.map V.int)/\0<=k/\∀ x:Int,Q (.int x) H
def zig (K:PySem.W.Frag):Sp:=λvs H Q _=>∃ (a:Addr) (ns:List Int) (k:Int),vs=[.ref a,.int k]/\SqL K H a (ns.map V.int)/\ns.length<=63/\0<=k/\k<=1000/\∀ l H',H l=none->Same H H'->PkAt H' l->Q (.ref l) H'
def zc3:Sp:=λvs H Q _=>∃ (l:Addr) (m:Int),vs=[.ref l,.int m]/\0<m/\m<1073741824/\PkAt H l/\∀ (v:Nat) H',(v:Int)<m->PkAt H' l->But l H H'->Q (.int v) H'
def zd8:Sp:=λvs H Q _=>∃ r fr er ps N c cs,vs=[.ref r,.ref c]/\Nt.Ok N/\NetAt H r fr er ps N/\H c=some (.tup (List.map V.int cs))/\cs.length=N.lanes /\
 ∀ p lo lt H',Same H H'->H' p=some (.tup [.ref lo,.ref lt])->H' lo=some (.lst ((flow N.forks cs).1.map V.int))->H' lt=some (.lst ((flow N.forks cs).2.map V.int))->Q (.ref p) H'
def zdG:Sp:=λvs H Q _=>∃ r fr er ps N c cs,vs=[.ref r,.ref c]/\Nt.Ok N/\NetAt H r fr er ps N/\H c=some (.tup (List.map V.int cs))/\cs.length=N.lanes /\
 ∀ p H',Same H H'->H' p=some (.tup ((za3 N cs).map V.int))->Q (.ref p) H'
def Frs (l:Addr) (H:Hp) (x:Addr):Prop:=∀ b o,H b=some o->b≠l->b≠x
theorem But.upd {l x:Addr}{H H1:Hp}{o:HO}(B:But l H H1) (f:Frs l H x):But l H (upd H1 x o):=λb u e n=>by rw[zag (f b u e n)];exact B b u e n
theorem zav (es:List Nat):(nums es).length=es.length:=by simp[nums]
theorem zkz {one d lanes:Nat}(h1:one<lanes) (a:d+1<lanes):(one+1+d)%lanes<lanes/\one≠(one+1+d)%lanes:=by
 refine⟨W6 _ (by lia),λe=>?_⟩;by_cases z:one+1+d<lanes
 ·rw[Nat.mod_eq_of_lt z]at e;lia
 ·rw[Nat.mod_eq_sub_mod (by lia),Nat.mod_eq_of_lt (by lia)]at e;lia
theorem zkB (k:Nat):0<PySem.NumText.digitsVal (49::List.replicate k 48):=by
 unfold PySem.NumText.digitsVal
 have go:∀ (k acc:Nat),0<acc->0<(List.replicate k 48).foldl (λacc c=>acc*10+(c-48)) acc:=λk=>by
  induction k with
  | zero=>intro acc h;exact h
  | succ k ih=>intro acc h;rw[Y5,ZQ];exact ih _ (by lia)
 rw[ZQ];exact go k _ (by decide)
theorem zjb {z:Str}{k:Nat}(hz:z.cps.toList=List.replicate k 48):PySem.NumText.AllDigits ((("1":Str)++z).cps.toList)/\(("1":Str)++z).length=k+1/\0<PySem.NumText.digitsVal ((("1":Str)++z).cps.toList):=by
 have e:(("1":Str)++z).cps.toList=49::List.replicate k 48:=by
  show ((("1":Str).cps++z.cps).toList)=_;rw[Ye,hz];rfl
 refine⟨?_,?_,?_⟩
 ·rw[e]
  intro c a;rcases Jh.mp a with q|q
  ·lia
  ·have:=WE q;lia
 ·have:=JR List.length e
  rw[Ju]at this;show (("1":Str)++z).cps.size=k+1;rw[this,JW,Yh]
 ·rw[e];exact zkB k
end Bn
namespace L2
open PySem PySem.Spec PyProof.Rows Own
section
variable {prog:Program}{w:World}{A:Around}{E:Value->Shared->Prop}{s:Shared}
theorem zga {t sl:Addr}{items:Array Value}{f e:Value}{lo hi:Option Int}{Q:Value->Shared->Prop}(a:IsTup s.heap t items) (g:s.heap.IsSliceOf sl f e .none) (i:IsPart f lo) (pu:IsPart e hi)
  (k:HT.sIx items.size 0 lo=0) (j:HT.sIx items.size items.size hi=items.size) (h:Q (.ref t) s):wpAny (model prog w) A (getItem (.ref t) (.ref sl)) Q E s:=by
 obtain⟨os,b,c,l⟩:=id g;have d:s.TypeIs (.ref sl) "slice":=⟨os,b,c⟩;unfold getItem
 try with_reducible refine Y1 ?_
 first|refine J0 (J7 ?_)|skip
 refine J0 (wpAny_sequenceKey a.typeIs (by decide) (J0 (wpAny_callSpecial?_slot (name:=Str.ofString "__getitem__") a.typeIs Yu (JV Yu a.typeIs PyProof.Rows.entry_tuple_getitem ?_ (PyProof.Rows.args_tuple_getitem _ _)))));show wpAny _ _ (Builtin.Tuple.tupleItemsOf (.ref t) >>= _) _ _ s;refine J0 (tupleItemsOf_ a (J0 (YQ d ?_)));rw[Jf (by decide)];refine J0 (HT.sliceApplied_gen g i pu ?_);rw[k,j];show wpAny _ _ (if (((0:Nat):Int) == 0 && (1:Int) == 1 && (items.size-0) == items.size)=true then _ else _) _ _ s;rw[Jf (by simp)];refine J0 ?_;unfold Builtin.Tuple.tupleIsExact;refine J0 (YQ a.typeIs (J7 ?_));rw[Jf (by decide)];exact J0 (YR (J7 ⟨_,rfl,J7 h⟩))
end
section
variable {X:Cx}
theorem zb4:OpR X (binaryOp .Add) (λx y H Q=>∃ a b xs ys,x=.ref a/\y=.ref b/\H a=some (.tup xs)/\H b=some (.tup ys)/\xs.length+ys.length<=sizeLine/\∀ r H',Same H H'->H' r=some (.tup (xs++ys))->Q (.ref r) H'):=by
 intro pins s σ H x y v u Q I m l h;obtain⟨a,b,xs,ys,rfl,rfl,ha,hb,hz,q⟩:=h;by_cases n:xs=[]
 ·subst n
  cases m;cases l;obtain⟨its,o,t,_⟩:=I.tuple (SqT.of ha);obtain⟨k,B,p2,_⟩:=I.tuple (SqT.of hb);cases o;obtain⟨⟨E,A,C,j⟩,o1,g,n1,d⟩:=t;obtain⟨⟨D,z,e2,i⟩,o2,f,n2,c⟩:=p2;simp only at g d f c;subst g d f c;refine concat_meets ⟨_,o1,rfl⟩ ⟨_,o2,rfl⟩ noFill_tuple_add seq_tuple_add PySem.F.slot_tuple_add PySem.F.entry_tuple_add (PySem.F.args_tuple_add_2 _ _) (tuple_addW0 a b #[] k.toArray n1 n2 A z j i rfl) ⟨o1,o2,?_⟩;exact⟨.ref b,H,I,rfl,q b H (Same.refl H) (by rw[Zy];exact hb)⟩
 ·exact zmt pins s σ H _ _ v u Q I m l ⟨a,b,xs,ys,rfl,rfl,SqT.of ha,SqT.of hb,n,hz,λe=>q a H (Same.refl H) (by rw[e,Yd];exact ha),λ_ p w=>q p _ (zac w _) zab⟩
theorem zcy:SlR X (λx lo hi H Q=>∃ a xs,x=.ref a/\H a=some (.tup xs)/\∀ p H',Same H H'->H' p=some (.tup (cutV xs lo hi))->Q (.ref p) H'):=by
 intro pins s σ H x v j i lo hi sl Q I d g e pu h;obtain⟨a,xs,rfl,c,q⟩:=h;by_cases b:HT.sIx xs.length 0 lo=0/\HT.sIx xs.length xs.length hi=xs.length
 ·cases d
  obtain⟨its,r,f,hz⟩:=I.tuple (SqT.of c);have hlen:its.toArray.size=xs.length:=by rw[Jj];exact r.length.symm
  refine⟨"tuple",_,PyProof.Rows.slot_tuple_getitem.lookup,f.typeIs,zga f g e pu (by rw[hlen];exact b.1) (by rw[hlen];exact b.2) ⟨.ref a,H,I,rfl,q a H (Same.refl H) ?_⟩⟩;unfold cutV;rw[b.1,b.2,Ww,Nat.sub_zero,Yq];exact c
 ·exact znn pins s σ H _ v j i lo hi sl Q I d g e pu ⟨a,xs,rfl,SqT.of c,b,λp k=>q p _ (zac k _) zab⟩
end
theorem zcV (xs:List V) (i:Nat) (h:i<=xs.length):cutV xs none (some (i:Int))=xs.take i:=by
 unfold cutV;rw[HT.sIx_none,HT.sIx_nat,Ww,Nat.sub_zero,Nat.min_eq_left h]
theorem zcW (xs:List V) (i:Nat) (h:i<=xs.length):cutV xs (some (i:Int)) none=xs.drop i:=by
 unfold cutV;rw[HT.sIx_none,HT.sIx_nat,Nat.min_eq_left h];exact Yf (by rw[Zd];exact Jg _)
end L2
namespace L2
open PySem PySem.Spec PyProof.Rows PySem.Calls PySem.NumText Own
section
variable {prog:Program}{w:World}{A:Around}{E:Value->Shared->Prop}{s:Shared}
theorem zgl {sl:Addr}{t:Tok}{Q:Int × Int × Nat->Shared->Prop}(d:s.heap.IsSliceOf sl .none .none (.int 1 t)) (h:Q (0,1,2) s):wpAny (model prog w) A (Builtin.Slice.sliceApplied (.ref sl) (pure (2:Int))) Q E s:=by
 have c:=d;obtain⟨os,a,f,b⟩:=c;unfold Builtin.Slice.sliceApplied Builtin.Slice.sliceFields;refine J0 (J0 (Z3 a b (x:=.none) rfl (J0 (Z3 a b (x:=.none) rfl (J0 (Z3 a b (x:=.int 1 t) rfl (J7 ?_)))))));refine J0 (slicePart_int ?_);show wpAny _ _ (if ((1:Int) == 0)=true then _ else _) _ _ s;rw[Ja (by decide)];refine J0 (Ws (J0 (Ws (J0 (J7 ?_)))));show wpAny _ _ (match Builtin.Slice.sliceAdjust none none 1 (2:Int) with|(lo,hi)=>pure (lo,(1:Int),Builtin.Slice.slicePlaces lo hi 1)) _ _ s;have e:Builtin.Slice.sliceAdjust none none 1 (2:Int)=(0,2):=by decide
 have e2:Builtin.Slice.slicePlaces (0:Int) 2 1=2:=by decide
 rw[e];show wpAny _ _ (pure ((0:Int),(1:Int),Builtin.Slice.slicePlaces (0:Int) 2 1)) _ _ s;rw[e2];exact J7 h
theorem zf9 {t sl:Addr}{x y:Value}{tk:Tok}{Q:Value->Shared->Prop}(a:IsTup s.heap t #[x,y]) (f:s.heap.IsSliceOf sl .none .none (.int 1 tk)) (h:Q (.ref t) s) :
  wpAny (model prog w) A (getItem (.ref t) (.ref sl)) Q E s:=by
 have b:=f;obtain⟨os,c,d,g⟩:=b;have e:s.TypeIs (.ref sl) "slice":=⟨os,c,d⟩;unfold getItem;try with_reducible refine Y1 ?_
 first|refine J0 (J7 ?_)|skip
 refine J0 (wpAny_sequenceKey a.typeIs (by decide) (J0 (wpAny_callSpecial?_slot (name:=Str.ofString "__getitem__") a.typeIs Yu (JV Yu a.typeIs PyProof.Rows.entry_tuple_getitem ?_ (PyProof.Rows.args_tuple_getitem _ _)))));show wpAny _ _ (Builtin.Tuple.tupleItemsOf (.ref t) >>= _) _ _ s;refine J0 (tupleItemsOf_ a (J0 (YQ e ?_)));rw[Jf (by decide)];refine J0 (zgl f ?_);show wpAny _ _ (if ((0:Int) == 0 && (1:Int) == 1 && (2:Nat) == 2)=true then _ else _) _ _ s;rw[Jf (by decide)];refine J0 (?_:wpAny _ _ (Builtin.Tuple.tupleIsExact (.ref t)) _ _ s);unfold Builtin.Tuple.tupleIsExact;refine J0 (YQ a.typeIs (J7 ?_));rw[Jf (by decide)];exact J0 (YR (J7 ⟨_,rfl,J7 h⟩))
end
section
variable {X:Cx}
def zn8 (K:PySem.W.Frag) (te:TE) (ts:TO):TE:=λσ H Q=>te σ H λx H1=>ts σ H1 λo b=>∃ a u v,x=.ref a/\SqT K b a [u,v]/\((o=some 1/\Q (.ref a) b)\/(o=some (-1)/\∀ p,b p=none->Q (.ref p) (upd b p (.tup [v,u]))))
theorem zmk {e st:Expr}{te:TE}{ts:TO}{p2 pos:Pos}(C:PE X e te) (B:PO X (some st) ts):PE X (.Subscript e (.Slice none none (some st) p2) pos) (zn8 X.K te ts):=by
 intro pins s σ H Q I h;refine Subscript_ (thn (C pins s σ H _ I h) λv s1 ⟨x,H1,D,y,A⟩=>wpAny_Slice ?_);rw[evalPart_none];refine J7 (J7 (thn (B pins s1 σ H1 _ D A) λf s2 ⟨o,p,n,po,z⟩=>?_));obtain⟨a,w,u,rfl,j,k⟩:=z;cases y;rcases k with ⟨rfl,k⟩|⟨rfl,k⟩
 ·obtain⟨t,rfl⟩:∃ t,f=.int 1 t:=by cases po;exact⟨_,rfl⟩
  have c:Inv X pins σ p { s2 with heap:=s2.heap.push { cls:=.type "slice",data:=.fields #[.none,.none,.int 1 t] } }:=n.kept (t':=s2.toks) λb ob q=>J8 _ q;obtain⟨its,r,d,hz⟩:=c.tuple j;obtain⟨i,g,rfl,m,l⟩:=r.two;show wpAny (model X.prog X.w) X.A (subscriptTail e (.Slice none none (some st) p2) (.ref a) (.ref s2.heap.objs.size)) (EP X pins σ Q) X.xe { s2 with heap:=s2.heap.push { cls:=.type "slice",data:=.fields #[.none,.none,.int 1 t] } };refine tail_any (ops:=[.ref a,.ref s2.heap.objs.size]) d.typeIs PyProof.Rows.slot_tuple_getitem.lookup (zf9 d (Wt ..) ?_) (by with_unfolding_all rfl);exact⟨.ref _,_,c,rfl,k⟩
 ·obtain⟨t,rfl⟩:∃ t,f=.int (-1) t:=by cases po;exact⟨_,rfl⟩
  have c:Inv X pins σ p { s2 with heap:=s2.heap.push { cls:=.type "slice",data:=.fields #[.none,.none,.int (-1) t] } }:=n.kept (t':=s2.toks) λb ob q=>J8 _ q;obtain⟨its,r,d,hz⟩:=c.tuple j;obtain⟨i,g,rfl,m,l⟩:=r.two;show wpAny (model X.prog X.w) X.A (subscriptTail e (.Slice none none (some st) p2) (.ref a) (.ref s2.heap.objs.size)) (EP X pins σ Q) X.xe { s2 with heap:=s2.heap.push { cls:=.type "slice",data:=.fields #[.none,.none,.int (-1) t] } };refine tail_any (ops:=[.ref a,.ref s2.heap.objs.size]) d.typeIs PyProof.Rows.slot_tuple_getitem.lookup (zcO d (Wt ..) ?_) (by with_unfolding_all rfl);exact⟨.ref _,_,c.laid (t':=s2.toks) (o:=.tup [u,w]) (λb ob q=>J8 _ q) (Jg _) ⟨by show 2<=sizeLine;decide,[g,i],.cons l (.cons m .nil),TupX.new _ _⟩,rfl,k _ (c.hok.fresh (Jg _))⟩
theorem zeD:CallR X (.type "int") (λvs H Q=>∃ x:Str,vs=[.str x]/\AllDigits x.cps.toList/\0<x.length/\x.length<=640/\Q (.int (digitsVal x.cps.toList:Nat)) H):=by
 rintro pins s σ H vs us Q I b ⟨x,rfl,hd,d,c,q⟩;obtain⟨u,rfl,t,rfl⟩:=b.one;have a:x.cps.toList.length=x.length:=by simp[Str.length]
 have ne:x.cps.toList≠[]:=λz=>by rw[z]at a;simp at a;lia
 exact PySem.W.KIN.call_text (intText_digits hd ne (by lia)) c ⟨.int _,H,I.tok _,⟨_,rfl⟩,q⟩
end
end L2
namespace K64
open PySem L2 Own Bn
def top (i:Nat):Stmt:=PySem.Challenge.pw_stairlanes_k64_least_pairs_that_break.main.body.getD i (.Pass ⟨0,0,0,0⟩)
abbrev zl9:Stmt:=top 36
abbrev zl7:Stmt:=top 37
abbrev zl5:Stmt:=top 38
section
variable {P:Program}{w:World}{K:PySem.W.Frag}{mg:Str->Option Value}{base:Heap}
theorem scC:FnScope ["_law_script","_law_k"] ["_law_script","_law_k"] (zaj zl9):=by trivial
theorem zmA {f:Addr}{fd:FuncData}(F:Fun K "_law_cell_at" "_law_cell_at" zl9 f fd) (G:Mgs mg):FnOk P w K mg base CX0 1 f fd ["_law_script","_law_k"] (zih K):=by
 refine F.ok scC (λvs H Q E h=>?_) (λcdv A outer s H vs Q E d h=>?_)
 ·obtain⟨a,ns,k,rfl,_⟩:=h
  rfl
 obtain⟨a,ns,k,rfl,b,k0,q⟩:=h;refine⟨_,(@zaf _ _ _ _ _ (@zbw _ _ _ _ _ _ _ _ (@zaE _ _ _ _ _ _ _ _ znz (@qv _ 1 _ _ (by trivial)) (@zau _ _ _ _ _ _ _ _ _ zay (by rfl) G.len YT (@zaa _ _ _ _ _ (@qv _ 0 _ _ (by trivial)) zad (by rfl)) (by decide) (by decide) (by rfl) (by rfl)) (zaR _)) (@zai _ _ _ (@zap _ _ _ _ (@zaP _ _ _ _ _ _ _ zaK (@qv _ 0 _ _ (by trivial)) (@qv _ 1 _ _ (by trivial)) (λ_ _=>rfl)))) zaI) (@zai _ _ _ (@zap _ _ _ _ zah))),?_⟩;refine⟨_,rfl,_,rfl,a,_,rfl,.inl b,_,_,rfl,rfl,_,rfl,ite2 (λz=>?_) (λz=>?_)⟩
 ·obtain⟨j,rfl⟩:=Int.eq_ofNat_of_zero_le k0
  have c:j<ns.length:=by have:=ZY z;rw[Jm]at this;lia
  exact⟨_,rfl,_,rfl,a,_,_,_,rfl,rfl,b,zbT c,q _⟩
 ·exact q 0
theorem scK:FnScope ["_law_left_here","_law_many","_law_digit"] ["_law_left_here","_law_many"] (zaj zl5):=by trivial
theorem zmv {f:Addr}{fd:FuncData}(F:Fun K "_law_pick" "_law_pick" zl5 f fd):FnOk P w K mg base CX0 1 f fd ["_law_left_here","_law_many"] zc3:=by
 refine F.ok scK (λvs H Q E h=>?_) (λcdv A outer s H vs Q E z h=>?_)
 ·obtain⟨l,m,rfl,_⟩:=h
  rfl
 obtain⟨l,m,rfl,d,n,S,k⟩:=h;obtain⟨a,b,c,i,t,r⟩:=S.ex;refine⟨_,(@zaf _ _ _ _ _ (@zbw _ _ _ _ _ _ _ _ (@zaE _ _ _ _ _ _ _ _ zms (@zaP _ _ _ _ _ _ _ zaK (@qv _ 0 _ _ (by trivial)) zah (λ_ _=>rfl)) zah (zaR _)) (@zaf _ _ _ _ _ (@zaq _ _ 2 _ _ _ _ scK.nd rfl (.inl rfl) (@zao _ _ _ _ _ _ _ _ zbh (@zaP _ _ _ _ _ _ _ zaK (@qv _ 0 _ _ (by trivial)) zah (λ_ _=>rfl)) (@qv _ 1 _ _ (by trivial))) (by rfl) (by trivial)) (@zaf _ _ _ _ _ (@zaT _ _ _ _ _ _ (@zao _ _ _ _ _ _ _ _ zbi (@zaP _ _ _ _ _ _ _ zaK (@qv _ 0 _ _ (by trivial)) zah (λ_ _=>rfl)) (@qv _ 1 _ _ (by trivial))) (@zch _ _ _ _ _ _ _ (@qv _ 0 _ _ (by trivial)) zah zbd (by intro _;rfl)) (by rfl) (by rfl) (by rfl)) (@zai _ _ _ (@zap _ _ _ _ (@qv _ 2 _ _ (by trivial)))))) zaI) (@zaf _ _ _ _ _ (@zaT _ _ _ _ _ _ (@zao _ _ _ _ _ _ _ _ zbh (@zao _ _ _ _ _ _ _ _ zaJ (@zao _ _ _ _ _ _ _ _ zdf (@zaP _ _ _ _ _ _ _ zaK (@qv _ 0 _ _ (by trivial)) zah (λ_ _=>rfl)) zah) zah) zah) (@zch _ _ _ _ _ _ _ (@qv _ 0 _ _ (by trivial)) zah zbd (by intro _;rfl)) (by rfl) (by rfl) (by rfl)) (@zai _ _ _ (@zap _ _ _ _ (@zao _ _ _ _ _ _ _ _ zbh (@zao _ _ _ _ _ _ _ _ zbh (@zao _ _ _ _ _ _ _ _ zdf (@zaP _ _ _ _ _ _ _ zaK (@qv _ 0 _ _ (by trivial)) zah (λ_ _=>rfl)) (@zaP _ _ _ _ _ _ _ zaK (@qv _ 0 _ _ (by trivial)) zah (λ_ _=>rfl))) zah) (@qv _ 1 _ _ (by trivial))))))),?_⟩
 have fin:∀ (x:Int) (H':Hp),0<=x->x<m->PkAt H' l->But l H H'->Q (.int x) H':=λx H' x0 j u y=>by
  obtain⟨v,rfl⟩:=Int.eq_ofNat_of_zero_le x0;exact k v H' j u y
 refine⟨_,rfl,l,_,_,_,rfl,rfl,SqL.of c,rfl,_,_,rfl,rfl,_,rfl,ite2 (λq=>?_) (λq=>?_)⟩
 ·refine⟨_,rfl,l,_,_,_,rfl,rfl,SqL.of c,rfl,_,rfl,_,_,rfl,rfl,d,?_⟩
  refine⟨_,rfl,l,_,_,_,rfl,rfl,SqL.of c,rfl,_,rfl,_,_,rfl,rfl,⟨d,n⟩,_,rfl,l,_,_,0,rfl,rfl,c,rfl,_,rfl,?_⟩;exact fin _ _ (Zz _ (by lia)) (ZT _ d) ⟨a / m,b,zab,Int.ediv_nonneg i (by lia),t,r⟩ λx o e ne=>by rw[zag ne];exact e
 ·refine⟨_,rfl,l,_,_,_,rfl,rfl,SqL.of c,rfl,_,_,rfl,rfl,.inr ⟨by decide,by decide⟩,_,_,rfl,rfl,_,_,rfl,rfl,(by show (0:Int)<2147483647;decide),_,rfl,l,_,_,1,rfl,rfl,c,rfl,?_⟩
  have p:0<=(b*48271+12345)%2147483647:=Zz _ (by decide);have B:(b*48271+12345)%2147483647<2147483647:=ZT _ (by decide);generalize g:upd H l (HO.lst ([V.int a,V.int b].set 1 (V.int ((b*48271+12345)%2147483647))))=H1;have h1:H1 l=some (.lst [.int a,.int ((b*48271+12345)%2147483647)]):=by rw[<- g];exact zab
  refine⟨_,rfl,l,_,_,_,rfl,rfl,SqL.of h1,rfl,_,rfl,l,_,_,_,rfl,rfl,SqL.of h1,rfl,_,_,rfl,rfl,.inl ⟨by lia,by lia⟩,_,_,rfl,rfl,(by show (0:Int)<1999999973;decide),_,rfl,_,_,rfl,rfl,d,?_⟩;exact fin _ _ (Zz _ (by lia)) (ZT _ d) ⟨a,_,h1,i,p,by lia⟩ λx o e ne=>by rw[<- g,zag ne];exact e
theorem scL:FnScope ["_law_script","_law_k","_law_cell","_law_seed"] ["_law_script","_law_k"] (zaj zl7):=by trivial
theorem zmy {f o:Addr}{fd p:FuncData}(F:Fun K "_law_left" "_law_left" zl7 f fd) (G:Mgs mg) (j:PySem.W.nsIn K cStatics "sys.int_max_str_digits" = some none) (d:Use P w K mg base "_law_cell_at" ["_law_script","_law_k"] 1 (zih K) o p):FnOk P w K mg base CX0 2 f fd ["_law_script","_law_k"] (zig K):=by
 refine F.ok scL (λvs H Q E h=>?_) (λcdv A outer s H vs Q E m h=>?_)
 ·obtain⟨a,ns,k,rfl,_⟩:=h
  rfl
 obtain⟨a,ns,k,rfl,g,t,k0,u,q⟩:=h;refine⟨_,(@zaf _ _ _ _ _ (@zaq _ _ 2 _ _ _ _ scL.nd rfl (.inl rfl) (@zal _ _ _ _ _ _ _ _ _ _ _ _ _ _ _ _ d.ok m (by rfl) d.m d.kp d.b .nil zaw (@zaa _ _ _ _ _ (@qv _ 0 _ _ (by trivial)) (@zaa _ _ _ _ _ (@zao _ _ _ _ _ _ _ _ zbh (@qv _ 1 _ _ (by trivial)) (@zau _ _ _ _ _ _ _ _ _ (zcu rfl) (by rfl) G.max (by rfl) (@zaa _ _ _ _ _ zah (@zaa _ _ _ _ _ (@zau _ _ _ _ _ _ _ _ _ zay (by rfl) G.len YT (@zaa _ _ _ _ _ (@qv _ 0 _ _ (by trivial)) zad (by rfl)) (by decide) (by decide) (by rfl) (by rfl)) zad (by rfl)) (by rfl)) (by decide) (by decide) (by rfl) (by rfl))) zad (by rfl)) (by rfl)) (by decide) (by rfl) (by rfl)) (by rfl) (by trivial)) (@zaf _ _ _ _ _ (@zaq _ _ 3 _ _ _ _ scL.nd rfl (.inl rfl) (@zao _ _ _ _ _ _ _ _ zbh (@zao _ _ _ _ _ _ _ _ zdf (@zao _ _ _ _ _ _ _ _ zaJ (@zao _ _ _ _ _ _ _ _ zaJ (@zao _ _ _ _ _ _ _ _ zbh (@qv _ 2 _ _ (by trivial)) zah) (@zao _ _ _ _ _ _ _ _ zdf (@zao _ _ _ _ _ _ _ _ zdf zah (@qv _ 1 _ _ (by trivial))) (@qv _ 1 _ _ (by trivial)))) zah) zah) zah) (by rfl) (by trivial)) (@zai _ _ _ (@zap _ _ _ _ (@zba _ _ _ _ (@zaa _ _ _ _ _ (@zao _ _ _ _ _ _ _ _ zbh (@zao _ _ _ _ _ _ _ _ zdf (@zau _ _ _ _ _ _ _ _ _ zg3 (by rfl) G.abs (by rfl) (@zaa _ _ _ _ _ (@qv _ 2 _ _ (by trivial)) zad (by rfl)) (by decide) (by decide) (by rfl) (by rfl)) (@zat _ _ _ _ _ _ _ _ _ zfo (by rfl) G.int (by rfl) (@zaa _ _ _ _ _ (@zel _ _ _ _ _ _ _ _ zop (@zau _ _ _ _ _ _ _ _ _ zg3 (by rfl) G.abs (by rfl) (@zaa _ _ _ _ _ (@qv _ 2 _ _ (by trivial)) zad (by rfl)) (by decide) (by decide) (by rfl) (by rfl)) (@zao _ _ _ _ _ _ _ _ zlx zah zah) (zaR _)) zad (by rfl)) (by decide) (by decide) (by rfl) (by rfl))) (@zat _ _ _ _ _ _ _ _ _ (zfn j) (by rfl) G.int (by rfl) (@zaa _ _ _ _ _ (@zao _ _ _ _ _ _ _ _ zdN zbN (@zao _ _ _ _ _ _ _ _ ziH zbN zah)) zad (by rfl)) (by decide) (by decide) (by rfl) (by rfl))) (@zaa _ _ _ _ _ (@qv _ 3 _ _ (by trivial)) zad (by rfl)) (by rfl))))))),?_⟩;refine⟨_,rfl,_,rfl,_,rfl,a,_,rfl,.inl g,_,_,rfl,_,_,rfl,rfl,?_,?_⟩
 ·split<;>lia
 refine⟨a,ns,_,rfl,g,Zz _ (by split<;>lia),λx=>?_⟩;refine⟨_,rfl,_,_,rfl,rfl,(by show (0:Int)<2147483629;decide),_,rfl,_,_,rfl,rfl,.inl ⟨by decide,by decide⟩,_,rfl,_,_,rfl,rfl,.inr ⟨by lia,by lia⟩,_,_,rfl,rfl,_,_,rfl,rfl,_,_,rfl,rfl,.inr ⟨by decide,by decide⟩,_,_,rfl,rfl,(by show (0:Int)<2147483647;decide),?_⟩;have n:=Zz ((x%2147483629+7919*k*k+11)*48271) (show (2147483647:Int)≠0 by decide);have v:=ZT ((x%2147483629+7919*k*k+11)*48271) (show (0:Int)<2147483647 by decide);refine⟨_,rfl,_,rfl,_,rfl,_,rfl,_,_,rfl,rfl,⟨by decide,by decide,by decide⟩,_,_,rfl,rfl,.inr ⟨_,rfl,_,_,rfl,rfl,.inr ?_,?_⟩⟩
 ·have c:∀ b:Bool,-2 ^ 64<(if b=true then (1:Int) else 0)/\(if b=true then (1:Int) else 0)<2 ^ 64:=by decide
  exact c _
 refine⟨48,2000,rfl,rfl,by decide,by decide,λz hz=>?_⟩;obtain⟨r,B,y⟩:=zjb hz
 have i:z.length=2000:=by
  have:=JR List.length hz;rw[Ju,Yh]at this;exact this
 refine⟨_,_,rfl,rfl,by rw[i];decide,_,rfl,r,by lia,by lia,_,_,rfl,rfl,by lia,_,rfl,(by show 2<=sizeLine;decide),λl e=>?_⟩;exact q l _ e (zac e _) ⟨_,_,zab,Zz _ (by lia),n,by lia⟩
end
end K64
namespace L2
open PySem PySem.Spec PyProof.Rows Own
def rowOf (H:Hp):V->Option (List V)
 | .ref a=>match H a with
  | some (.tup xs)=>some xs
  | _=>none
 | _=>none
end L2
namespace Bn
open PySem L2 Own
structure Grp where
 many:Int
 lane:Nat
 fork:Nat
def zaz (back:Bool) (st:List Int × Nat) (k:Nat) (f:Nat × Nat):List Int × Nat :=
 if st.2=f.1\/st.2=f.2 then (st.1.set k (1-st.1.getD k 0),if (if back then 1-st.1.getD k 0 else st.1.getD k 0)=0 then f.1 else f.2) else st
def zaH (back:Bool) (fs:List (Nat × Nat)) (ts:List Int) (lane:Nat):Nat->List Int × Nat
 | 0=>(ts,lane)
 | i+1=>zaz back (zaH back fs ts lane i) i (fs.getD i (0,0))
def zaD (xs:List Int) (i:Nat) (d:Int):List Int:=xs.set i (xs.getD i 0+d)
theorem zaY (xs:List Int) (i:Nat) (d:Int):(zaD xs i d).length=xs.length:=by simp[zaD]
theorem zaQ {xs:List Int}{i p:Nat}{d:Int}(h:p<xs.length):(zaD xs i d).getD p 0=xs.getD p 0+if i=p then d else 0:=by
 unfold zaD;rw[zcc h];by_cases e:i=p
 ·subst e;rw[Jf rfl,Jf rfl]
 ·rw[Ja e,Ja e,Int.add_zero]
theorem zbZ {xs ys:List Int}(a:xs.length=ys.length) (h:∀ p,p<xs.length->xs.getD p 0=ys.getD p 0):xs=ys:=by
 refine W5 a λp h1 b=>?_;have:=h p h1
 rwa [Jb,Jb,J6 h1,J6 b]at this
theorem zca {L T:List Int}{f:Nat × Nat}{p:Nat}(a:p<L.length):(zaN (L,T) f).1.getD p 0=if f.2=p then (L.getD f.1 0+L.getD f.2 0) / 2 else if f.1=p then (L.getD f.1 0+L.getD f.2 0+1) / 2 else L.getD p 0:=by
 unfold zaN;simp only;rw[zcc (by rw[Z9];exact a),zcc a]
theorem zkC (back:Bool) (L T:List Int) (f:Nat × Nat) (here k:Nat) (ts:List Int) (h1:f.1<L.length) (u:f.2<L.length) (ne:f.1≠f.2) (v:here<L.length) (q:ts.getD k 0=(L.getD f.1 0+L.getD f.2 0)%2) :
  let d:Int:=if back then -1 else 1
  let r:=zaz back (ts,here) k f
  (zaN (zaD L here d,T) f).1=zaD (zaN (L,T) f).1 r.2 d/\r.2<L.length /\
   ((here=f.1\/here=f.2)->((zaD L here d).getD f.1 0+(zaD L here d).getD f.2 0)%2=1-ts.getD k 0)/\(¬(here=f.1\/here=f.2)->((zaD L here d).getD f.1 0+(zaD L here d).getD f.2 0)%2=ts.getD k 0):=by
 intro d r;have hd:d=if back then -1 else 1:=rfl;have t:=zaQ (xs:=L) (i:=here) (d:=d) h1;have s:=zaQ (xs:=L) (i:=here) (d:=d) u;generalize m:L.getD f.1 0+L.getD f.2 0=c at *;have h:r=zaz back (ts,here) k f:=rfl;unfold zaz at h;simp only at h;by_cases on:here=f.1\/here=f.2
 ·rw[Jf on]at h
  have l:(zaD L here d).getD f.1 0+(zaD L here d).getD f.2 0=c+d:=by
   rw[t,s,<- m];rcases on with e|e
   ·subst e;rw[Jf rfl,Ja ne];lia
   ·subst e;rw[Ja (Ne.symm ne),Jf rfl];lia
  have g:r.2=if (if back then 1-c%2 else c%2)=0 then f.1 else f.2:=by rw[h,q]
  refine⟨zbZ (by rw[zaS,zaY,zaY,zaS]) λp j=>?_,?_,λ_=>?_,λz=>absurd on z⟩
  ·rw[zaS,zaY]at j
   have a:p<L.length:=j;rw[zca (by rw[zaY];exact a),l,zaQ (xs:=(zaN (L,T) f).1) (by rw[zaS];exact a),zca a,m,zaQ (xs:=L) a,g];cases back
   ·simp only[Yb,Zb]at hd ⊢
    rw[hd];by_cases p2:f.2=p
    ·subst p2
     simp only[Yv];by_cases z:c%2=0
     ·rw[Jf z,Ja ne];lia
     ·rw[Ja z,Jf rfl];lia
    ·rw[Ja p2,Ja p2]
     by_cases b:f.1=p
     ·subst b
      simp only[Yv];by_cases z:c%2=0
      ·rw[Jf z,Jf rfl];lia
      ·rw[Ja z,Ja (Ne.symm ne)];lia
     ·rw[Ja b,Ja b]
      have o:¬ here=p:=by rcases on with e|e<;>lia
      have n:¬(if c%2=0 then f.1 else f.2)=p:=by split<;>assumption
      rw[Ja o,Ja n]
   ·simp only[Yv]at hd ⊢
    rw[hd];by_cases p2:f.2=p
    ·subst p2
     simp only[Yv];by_cases z:1-c%2=0
     ·rw[Jf z,Ja ne];lia
     ·rw[Ja z,Jf rfl];lia
    ·rw[Ja p2,Ja p2]
     by_cases b:f.1=p
     ·subst b
      simp only[Yv];by_cases z:1-c%2=0
      ·rw[Jf z,Jf rfl];lia
      ·rw[Ja z,Ja (Ne.symm ne)];lia
     ·rw[Ja b,Ja b]
      have o:¬ here=p:=by rcases on with e|e<;>lia
      have n:¬(if 1-c%2=0 then f.1 else f.2)=p:=by split<;>assumption
      rw[Ja o,Ja n]
  ·rw[g]
   by_cases z:(if back=true then 1-c%2 else c%2)=0
   ·rw[Jf z];exact h1
   ·rw[Ja z];exact u
  ·rw[l,q]
   cases back<;>simp at hd<;>lia
 ·rw[Ja on]at h
  have n1:¬ here=f.1:=λz=>on (.inl z);have n2:¬ here=f.2:=λz=>on (.inr z);rw[Ja n1]at t;rw[Ja n2]at s;have l:(zaD L here d).getD f.1 0+(zaD L here d).getD f.2 0=c:=by rw[t,s,<- m];lia
  have g:r.2=here:=by rw[h]
  refine⟨zbZ (by rw[zaS,zaY,zaY,zaS]) λp j=>?_,by rw[g];exact v,λz=>absurd z on,λ_=>by rw[l,q]⟩;rw[zaS,zaY]at j;have a:p<L.length:=j;rw[zca (by rw[zaY];exact a),l,zaQ (xs:=(zaN (L,T) f).1) (by rw[zaS];exact a),zca a,m,zaQ (xs:=L) a,g];by_cases p2:f.2=p
  ·rw[Jf p2,Jf p2,Ja (by lia)];lia
  ·rw[Ja p2,Ja p2]
   by_cases b:f.1=p
   ·rw[Jf b,Jf b,Ja (by lia)];lia
   ·rw[Ja b,Ja b]
structure Ran (back:Bool) (fs:List (Nat × Nat)) (cs ts:List Int) (lane i:Nat):Prop where
 flows:(flow (fs.take i) (zaD cs lane (if back then -1 else 1))).1=zaD (flow (fs.take i) cs).1 (zaH back fs ts lane i).2 (if back then -1 else 1)
 turns:∀ k,k<i->(flow (fs.take i) (zaD cs lane (if back then -1 else 1))).2.getD k 0=(zaH back fs ts lane i).1.getD k 0
 rest:∀ k,i<=k->(zaH back fs ts lane i).1.getD k 0=ts.getD k 0
 len:(zaH back fs ts lane i).1.length=ts.length
 here:(zaH back fs ts lane i).2<cs.length
 bits:∀ t∈(zaH back fs ts lane i).1,t=0\/t=1
theorem zdn (cs:List Int) (T:List Int):∀ (a:List (Nat × Nat)) (L:List Int) (k:Nat),k<T.length->(zaM (L,T) a).2.getD k 0=T.getD k 0
 | [],_,_,_=>rfl
 | g::a,L,k,h=>by
  have:=zdn cs (zaN (L,T) g).2 a (zaN (L,T) g).1 k (by simp[zaN];lia);rw[show zaM (L,T) (g::a)=zaM ((zaN (L,T) g).1,(zaN (L,T) g).2) a from rfl,this];show (T++[_]).getD k 0=T.getD k 0;rw[Jb,Yj h,<- Jb]
theorem zlQ {fs:List (Nat × Nat)}{i:Nat}{f:Nat × Nat}(h:fs[i]?=some f) (cs:List Int):(flow fs cs).2.getD i 0=((flow (fs.take i) cs).1.getD f.1 0+(flow (fs.take i) cs).1.getD f.2 0)%2:=by
 have sp:fs=fs.take (i+1)++fs.drop (i+1):=(ZC _ _).symm
 have e:flow fs cs=zaM (flow (fs.take (i+1)) cs) (fs.drop (i+1)):=by
  conv=>lhs;rw[sp]
  unfold flow zaM;rw[Z6]
 have hi:i<fs.length:=(J9.mp h).1;have tl:(flow (fs.take i) cs).2.length=i:=by rw[za7,JE];lia
 rw[e,zbQ h];have:=zdn cs (zaN (flow (fs.take i) cs) f).2 (fs.drop (i+1)) (zaN (flow (fs.take i) cs) f).1 i (by simp[zaN,tl]);rw[this];unfold zaN;simp only;rw[Jb,Yg (by lia),tl];simp
theorem zgw {ts:List Int}{k:Nat}(h:∀ t∈ts,t=0\/t=1):∀ t∈ts.set k (1-ts.getD k 0),t=0\/t=1:=λt a=>by
 rcases List.mem_or_eq_of_mem_set a with z|z
 ·exact h t z
 ·by_cases b:k<ts.length
  ·have:=h _ (L2.zgX b);lia
  ·rw[List.set_eq_of_length_le (by lia)]at a;exact h t a
theorem ran {back:Bool}{fs:List (Nat × Nat)}{cs:List Int}{lane:Nat}(ok:∀ f∈fs,f.1<cs.length/\f.2<cs.length/\f.1≠f.2) (g:lane<cs.length) (hb:∀ t∈(flow fs cs).2,t=0\/t=1):∀ i,i<=fs.length->Ran back fs cs (flow fs cs).2 lane i
 | 0,_=>⟨rfl,λk b=>absurd b (Nat.not_lt_zero _),λ_ _=>rfl,rfl,g,hb⟩
 | i+1,hi=>by
  have ih:=ran (back:=back) ok g hb i (by lia);have c:fs[i]?=some fs[i]:=J6 (by lia);have gd:fs.getD i (0,0)=fs[i]:=by rw[Jb,c];rfl
  have d:=ok _ (Yr (show i<fs.length by lia));have h:=zbQ c (zaD cs lane (if back then -1 else 1));have e2:=zbQ c cs;have tt:=zlQ c cs;generalize fs[i]=f at *;have l1:(flow (fs.take i) cs).1.length=cs.length:=zbG _ _;have tl:(flow (fs.take i) (zaD cs lane (if back then -1 else 1))).2.length=i:=by rw[za7,JE];lia
  have j:(flow fs cs).2.length=fs.length:=za7 _ _;have of:=zkC back (flow (fs.take i) cs).1 (flow (fs.take i) (zaD cs lane (if back then -1 else 1))).2 f (zaH back fs (flow fs cs).2 lane i).2 i (zaH back fs (flow fs cs).2 lane i).1 (by lia) (by lia) d.2.2 (by rw[l1];exact ih.here) (by rw[ih.rest i (Jg _)];exact tt);obtain⟨o1,o2,n,m⟩:=of;have rs:zaH back fs (flow fs cs).2 lane (i+1)=zaz back ((zaH back fs (flow fs cs).2 lane i).1,(zaH back fs (flow fs cs).2 lane i).2) i f:=by show zaz _ _ _ _=_;rw[gd]
  have st:flow (fs.take i) (zaD cs lane (if back then -1 else 1))=(zaD (flow (fs.take i) cs).1 (zaH back fs (flow fs cs).2 lane i).2 (if back then -1 else 1),(flow (fs.take i) (zaD cs lane (if back then -1 else 1))).2):=by rw[<- ih.flows]
  generalize a:zaH back fs (flow fs cs).2 lane i=r at *;generalize o:(flow (fs.take i) (zaD cs lane (if back then -1 else 1))).2=T at *
  have tn:(zaz back (r.1,r.2) i f).1.getD i 0=(zaN (zaD (flow (fs.take i) cs).1 r.2 (if back then -1 else 1),T) f).2.getD i 0:=by
   unfold zaN;simp only;rw[Jb (l:=T++_),Yg (by lia),tl];simp only[Nat.sub_self,List.getElem?_cons_zero,ZJ];unfold zaz;by_cases on:r.2=f.1\/r.2=f.2
   ·rw[Jf on,n on]
    simp only;rw[zcc (by have z:=ih.len;rw[a,j]at z;lia),Jf rfl]
   ·rw[Ja on,m on]
  have keep:∀ k,k≠i->(zaz back (r.1,r.2) i f).1.getD k 0=r.1.getD k 0:=λk b=>by
   unfold zaz;split
   ·simp only
    rw[Jb,List.getElem?_set_ne (Ne.symm b),<- Jb]
   ·rfl
  refine⟨?_,λk b=>?_,λk b=>?_,?_,?_,?_⟩
  ·rw[h,st,o1,rs,e2,show flow (fs.take i) cs=((flow (fs.take i) cs).1,(flow (fs.take i) cs).2) from rfl];rfl
  ·rw[h,st,rs]
   by_cases e:k=i
   ·subst e;exact tn.symm
   ·have z:=ih.turns k (by lia)
    rw[a,o]at z;rw[keep k e,<- z];unfold zaN;simp only;rw[Jb,Yj (by lia),<- Jb]
  ·have z:=ih.rest k (by lia)
   rw[a]at z;rw[rs,keep k (by lia),z]
  ·rw[rs]
   unfold zaz;split
   ·simp only;rw[Z9,<- ih.len,a]
   ·rw[<- ih.len,a]
  ·rw[rs,<- l1];exact o2
  ·rw[rs]
   unfold zaz;split
   ·exact zgw (by have z:=ih.bits;rw[a]at z;exact z)
   ·have z:=ih.bits;rw[a]at z;exact z
theorem zcz {back:Bool}{fs:List (Nat × Nat)}{ts:List Int}{lane:Nat}(h:∀ t∈ts,t=0\/t=1):∀ i,∀ t∈(zaH back fs ts lane i).1,t=0\/t=1
 | 0=>h
 | i+1=>by
  have ih:=zcz (back:=back) (fs:=fs) (lane:=lane) h i;show ∀ t∈(zaz back (zaH back fs ts lane i) i (fs.getD i (0,0))).1,t=0\/t=1;unfold zaz;split
  ·exact zgw ih
  ·exact ih
theorem zc6 {back:Bool}{fs:List (Nat × Nat)}{ts:List Int}{lane:Nat}:∀ i,(zaH back fs ts lane i).1.length=ts.length
 | 0=>rfl
 | i+1=>by
  have ih:=zc6 (back:=back) (fs:=fs) (ts:=ts) (lane:=lane) i;show (zaz back (zaH back fs ts lane i) i (fs.getD i (0,0))).1.length=_;unfold zaz;split
  ·simp only;rw[Z9];exact ih
  ·exact ih
theorem zdJ {back:Bool}{fs:List (Nat × Nat)}{ts:List Int}{lane n:Nat}(ok:∀ f∈fs,f.1<n/\f.2<n/\f.1≠f.2) (b:lane<n):∀ i,i<=fs.length->(zaH back fs ts lane i).2<n
 | 0,_=>b
 | i+1,hi=>by
  have ih:=zdJ (back:=back) (ts:=ts) ok b i (by lia);have a:=ok _ (Yr (show i<fs.length by lia));have gd:fs.getD i (0,0)=fs[i]:=by rw[Jb,J6 (show i<fs.length by lia)];rfl
  show (zaz back (zaH back fs ts lane i) i (fs.getD i (0,0))).2<n;rw[gd];generalize fs[i]=f at *;unfold zaz;split
  ·simp only
   by_cases z:(if back=true then 1-(zaH back fs ts lane i).1.getD i 0 else (zaH back fs ts lane i).1.getD i 0)=0
   ·rw[Jf z];exact a.1
   ·rw[Ja z];exact a.2.1
  ·exact ih
theorem zgU (k:Nat):∀ es:List Nat,(es.map λ(e:Nat)=>(e:Int)).idxOf (k:Int)=es.idxOf k
 | []=>rfl
 | e::es=>by
  rw[Y6,List.idxOf_cons,List.idxOf_cons,zgU k es]
  have:((e:Int) == (k:Int))=(e == k):=by
   rw[YE,beq_iff_eq];rw[beq_iff_eq];lia
  rw[this]
theorem zkK (es:List Nat):nums es=(es.map λ(e:Nat)=>(e:Int)).map V.int:=by unfold nums;rw[Zv];rfl
def zlY:Sp:=λvs H Q _=>∃ r fr er ps N,∃ lane:Nat,vs=[.ref r,.int lane]/\Nt.Ok N/\NetAt H r fr er ps N/\lane<N.lanes/\Q (.int (N.ends.idxOf lane:Nat)) H
def RunQ (back:Bool) (vs:List V) (H:Hp) (Q:VK):Prop:=∃ r fr er ps N b ts,∃ lane:Nat,vs=[.ref r,.ref b,.int lane]/\Nt.Ok N/\NetAt H r fr er ps N/\H b=some (.tup (List.map V.int ts))/\ts.length=N.forks.length/\(∀ t∈ts,t=0\/t=1)/\lane<N.lanes /\
 ∀ p a H',Same H H'->H' p=some (.tup [.ref a,.int (N.ends.idxOf (zaH back N.forks ts lane N.forks.length).2:Nat)])->H' a=some (.tup ((zaH back N.forks ts lane N.forks.length).1.map V.int))->Q (.ref p) H'
def zic (back:Bool):Sp:=λvs H Q _=>RunQ back vs H Q
def zlW:Sp:=λvs H Q _=>∃ (us:List V) (back:Bool),vs=us++[.bl back]/\RunQ back us H Q
theorem zl1 (xs:List Int) (i:Nat) (v:Int) (h:i<xs.length):(xs.map V.int).take i++[V.int v]++(xs.map V.int).drop (i+1)=(xs.set i v).map V.int:=by
 rw[List.set_eq_take_append_cons_drop,Jf h,JN,Y6,List.map_take,List.map_drop,JY];rfl
def part (m:Int) (lane k:Nat):List Grp:=if m=0 then [] else [⟨m,lane,k⟩]
end Bn
namespace L2
open PySem PySem.Spec PyProof.Rows Own
section
variable {X:Cx}
theorem Inv.big {pins:List (Addr × Obj)}{σ:St}{H:Hp}{s:Shared}(I:Inv X pins σ H s):sysModules<s.heap.objs.size:=by
 have h:mainGlobals<s.heap.objs.size:=(I.mod.glob.keeps I.bk).lt;exact Zw (by decide) h
end
end L2
namespace L2
open PySem PySem.Spec PyProof.Rows Own
def LtAt (A:Around) (s:Shared) (y x:Value) (b:Bool):Prop:=∀ (prog:Program) (w:World) (E:Value->Shared->Prop) (Q:Value->Shared->Prop),Q (.bool b) s->wpAny (model prog w) A (richCompare .Lt y x) Q E s
theorem LtAt.ints {A:Around}{s:Shared}(a b:Int) (t u:Tok):LtAt A s (.int a t) (.int b u) (decide (a<b)):=λ_ _ _ _ h=>lt_int h
theorem zf1 (l b:Addr) (xs ys:Array Value) (n m:Nat) (F E:Option Addr) (f e:Array (Option Value)) (k:Nat) (H:k<xs.size) (G:k<ys.size) (c:Bool) :
  Meets (Builtin.«tuple.__lt__» ⟨[.ref l,.ref b],[]⟩)
   (λA R s=>s.heap.get? l=some { cls:=.type "tuple",dict:=F,data:=.seq xs n,slots:=f }/\s.heap.get? b=some { cls:=.type "tuple",dict:=E,data:=.seq ys m,slots:=e } /\
    (∀ j (h1:j<xs.size) (I:j<ys.size),j<k->SeqAt.EqAt A.in1 s xs[j] ys[j] true)/\SeqAt.EqAt A.in1 s xs[k] ys[k] false/\LtAt A.in1 s xs[k] ys[k] c/\R (.ok (.ret (.bool c))) s) :=
 .of_wp λprog w A R s h=>by
  obtain⟨t,g,d,tk,os⟩:=s;obtain⟨u,hb,B,v,C,h⟩:=h;have kinds:=AutoSeq1.sub_tuple_tuple;have p:(xs.toList.zip ys.toList).length=min xs.size ys.size:=by simp
  wp_walk using wpAny_loadPart' u,wpAny_loadPart' hb,wpAny_forIn_list _ (λrest b s'=>b.1=none/\s'=⟨t,g,d,tk,os⟩/\∃ i,i<=k/\rest=(xs.toList.zip ys.toList).drop i) _
  case turn =>
   rintro⟨y,x⟩ rest b s' ⟨o,rfl,i,r,hz⟩;have i1:i<xs.size:=by lia
   have i2:i<ys.size:=by lia
   have a:i<(xs.toList.zip ys.toList).length:=by rw[p];lia
   rw[YX a]at hz;obtain⟨q,e2⟩:=Wa hz;have D:y=xs[i]:=by simpa using JR Prod.fst q
   have ex:x=ys[i]:=by simpa using JR Prod.snd q
   subst D ex;by_cases z:i=k
   ·subst z
    refine J0 (v prog w _ _ ?_);simp only[Yv,Bool.not_false];refine J0 (YR (J0 (C prog w _ _ ?_)))
    wp_walk
    exact⟨_,rfl,h⟩
   ·refine J0 (B i i1 i2 (by lia) prog w _ _ ?_)
    wp_walk
    exact⟨rfl,rfl,i+1,by lia,e2⟩
  case fin =>
   rintro⟨K,J⟩ s' ⟨o,rfl,i,r,hz⟩;have a:i<(xs.toList.zip ys.toList).length:=by rw[p];lia
   rw[YX a]at hz;cases hz
  case h =>
   exact⟨rfl,rfl,0,JS _,rfl⟩
theorem LtAt.tuples {A:Around}{s:Shared}{l b:Addr}{xs ys:Array Value}{k:Nat}{c:Bool}(t:IsTup s.heap l xs) (hb:IsTup s.heap b ys) (r:A.units<cLine) (q:k<xs.size) (p:k<ys.size)
  (v:∀ j (h1:j<xs.size) (G:j<ys.size),j<k->SeqAt.EqAt A.in1 s xs[j] ys[j] true) (u:SeqAt.EqAt A.in1 s xs[k] ys[k] false) (y:LtAt A.in1 s xs[k] ys[k] c):LtAt A s (.ref l) (.ref b) c:=λprog w E Q h=>by
 obtain⟨⟨D,f,B,d⟩,o1,o,n,g⟩:=t;obtain⟨⟨C,e,z,a⟩,o2,i,m,e2⟩:=hb;simp only at o g i e2;subst o g i e2;exact richCompare_meets_room (op:=.Lt) ⟨_,o1,rfl⟩ ⟨_,o2,rfl⟩ F.slot_tuple_lt F.entry_tuple_lt (F.args_tuple_lt_2 _ _) (zf1 l b xs ys n m f e d a k q p c) ⟨o1,o2,v,u,y,show Value.bool c≠Value.notImplemented/\Q (.bool c) s from⟨(λx=>nomatch x),h⟩⟩ r
end L2
namespace K64
open PySem L2 Own Bn
abbrev zit:Stmt:=top 11
abbrev ziu:Stmt:=top 12
def zfE:Sp:=λvs H Q _=>∃ a xs,∃ (place:Nat) (v:Int),vs=[.ref a,.int place,.int v]/\H a=some (.tup (List.map V.int xs))/\place<xs.length/\xs.length<=1000/\∀ p H',Same H H'->H' p=some (.tup ((xs.set place v).map V.int))->Q (.ref p) H'
def zfG:Sp:=λvs H Q _=>∃ a xs,∃ (place:Nat) (v:Int),vs=[.ref a,.int place,.int v]/\H a=some (.tup (List.map V.int xs))/\place<xs.length/\xs.length<=1000/\∀ p H',Same H H'->H' p=some (.tup ((xs.set place (xs.getD place 0+v)).map V.int))->Q (.ref p) H'
section
variable {P:Program}{w:World}{K:PySem.W.Frag}{mg:Str->Option Value}{base:Heap}
theorem scGi:FnScope ["row","place","value"] ["row","place","value"] (zaj zit):=by trivial
theorem zkI {f:Addr}{fd:FuncData}(F:Fun K "given_at" "given_at" zit f fd) (G:Mgs mg):FnOk P w K mg base CX0 1 f fd ["row","place","value"] zfE:=by
 refine F.ok scGi (λvs H Q E h=>?_) (λcdv A outer s H vs Q E u h=>?_)
 ·obtain⟨a,xs,place,v,rfl,_⟩:=h
  rfl
 obtain⟨a,xs,place,v,rfl,ha,i,r,k⟩:=h;refine⟨_,(@zai _ _ _ (@zap _ _ _ _ (@zao _ _ _ _ _ _ _ _ zb4 (@zao _ _ _ _ _ _ _ _ zb4 (@zbn _ _ _ _ _ _ _ _ _ _ zcy (@qv _ 0 _ _ (by trivial)) zbv (@zaO _ _ _ (@qv _ 1 _ _ (by trivial)))) (@zaB _ _ _ _ _ (@zaa _ _ _ _ _ (@qv _ 2 _ _ (by trivial)) zad (by rfl)))) (@zbn _ _ _ _ _ _ _ _ _ _ zcy (@qv _ 0 _ _ (by trivial)) (@zaO _ _ _ (@zao _ _ _ _ _ _ _ _ zaJ (@qv _ 1 _ _ (by trivial)) zah)) zbv)))),?_⟩;have t:(xs.map V.int).length=xs.length:=Jm _;refine⟨_,rfl,_,rfl,_,rfl,a,_,rfl,ha,λn H1 s1 h1=>?_⟩;rw[zcV _ place (by lia)]at h1;refine⟨_,rfl,(by show 1<=sizeLine;decide),λp2 b=>?_⟩;have s2:=zac b (.tup [.int v]);refine⟨n,p2,_,_,rfl,rfl,s2 _ _ h1,zab,?_,λm y g p=>?_⟩
 ·rw[JE,JM];show _+1<=_;lia
 have u3:=(s1.trans s2).trans g;refine⟨_,rfl,_,rfl,_,_,rfl,rfl,_,rfl,a,_,rfl,u3 _ _ ha,λl x c d=>?_⟩;rw[show ((place:Int)+1)=((place+1:Nat):Int) from rfl,zcW _ (place+1) (by lia)]at d;refine⟨m,l,_,_,rfl,rfl,c _ _ p,d,?_,λj q e o=>?_⟩
 ·rw[Jn,JE,Zd,JM];show _+1+_<=_;lia
 exact k j q ((u3.trans c).trans e) (by rw[o,zl1 xs place v i])
theorem scAd:FnScope ["counts","place","many"] ["counts","place","many"] (zaj ziu):=by trivial
theorem zkJ {f g:Addr}{fd i:FuncData}(F:Fun K "added" "added" ziu f fd) (G:Mgs mg) (b:Use P w K mg base "given_at" ["row","place","value"] 1 zfE g i):FnOk P w K mg base CX0 2 f fd ["counts","place","many"] zfG:=by
 refine F.ok scAd (λvs H Q E h=>?_) (λcdv A outer s H vs Q E e h=>?_)
 ·obtain⟨a,xs,place,v,rfl,_⟩:=h
  rfl
 obtain⟨a,xs,place,v,rfl,ha,c,d,k⟩:=h;refine⟨_,(@zai _ _ _ (@zap _ _ _ _ (@zal _ _ _ _ _ _ _ _ _ _ _ _ _ _ _ _ b.ok e (by rfl) b.m b.kp b.b .nil zaw (@zaa _ _ _ _ _ (@qv _ 0 _ _ (by trivial)) (@zaa _ _ _ _ _ (@qv _ 1 _ _ (by trivial)) (@zaa _ _ _ _ _ (@zao _ _ _ _ _ _ _ _ zaJ (@zaP _ _ _ _ _ _ _ zbc (@qv _ 0 _ _ (by trivial)) (@qv _ 1 _ _ (by trivial)) (λ_ _=>rfl)) (@qv _ 2 _ _ (by trivial))) zad (by rfl)) (by rfl)) (by rfl)) (by decide) (by rfl) (by rfl)))),?_⟩;exact⟨_,rfl,_,rfl,_,rfl,_,rfl,a,_,_,_,rfl,rfl,SqT.of ha,zbT c,_,rfl,_,_,rfl,rfl,a,xs,place,_,rfl,ha,c,d,k⟩
end
end K64
namespace L2
open PySem PySem.Spec PyProof.Rows
section
variable [DecidableEq κ]
theorem RelO.isSome_eq {o:Option V}{u:Option Value}(r:RelO o u):o.isSome=u.isSome:=by
 cases o with
 | none=>cases u with
  | none=>rfl
  | some _=>exact(show False from r).elim
 | some _=>cases u with
  | none=>exact(show False from r).elim
  | some _=>rfl
theorem RelO.getD {o:Option V}{u:Option Value}{d:V}{d':Value}(r:RelO o u) (a:RelV d d'):RelV (o.getD d) (u.getD d'):=by
 cases o with
 | none=>cases u with
  | none=>exact a
  | some _=>exact(show False from r).elim
 | some _=>cases u with
  | none=>exact(show False from r).elim
  | some _=>exact r
end
theorem zoy {P:Program}{w:World}{k:Key}{u:Value}(r:RelV (kV k) u):(zaZ P w).is k u=true:=by
 cases k with
 | inl i=>obtain⟨t,e⟩:=(show ∃ t,u=Value.int i t from r);subst e;exact zfW P w i t
 | inr x=>obtain⟨t,e⟩:=(show ∃ t,u=Value.str x t from r);subst e;exact zfV P w x t
theorem zfa {P:Program}{w:World}:∀ {ks:List Key}{us:List Value},Vals (ks.map kV) us->ItemsAre (zaZ P w) ks us
 | [],_,r=>by rw[List.map_nil]at r;cases r;exact .nil
 | k::ks,_,r=>by
  rw[Y6]at r
  cases r with
  | cons h t=>exact .cons (zoy h) (zfa t)
section
variable {P:Program}{w:World}{H:Hp}{h:Heap}{a:Addr}
theorem znr {u:HO}(ok:HOk P w H h) (e:Rd H a u):ObjOk P w H h a u:=e.ok ok
theorem znS {ks:List Key}(ok:HOk P w H h) (e:H a=some (.tup (ks.map kV))):(tupleKind (zaZ P w)).is h ks a:=by
 obtain⟨_,its,r,o,h1,c,n,b⟩:=(show ObjOk P w H h a (.tup (ks.map kV)) from ok a _ e);exact⟨o,its.toArray,n,h1,c,b.1,by simpa using zfa r⟩
end
section
variable {X:Cx}{pins:List (Addr × Obj)}{σ:St}{H:Hp}{s:Shared}{a:Addr}
theorem zgd {h':Heap}{t':Nat}{ob:HO}(I:Inv X pins σ H s) (c:Mut (H a)) (d:Heap.SameBut a s.heap h') (f:∃ q,h'.get? a=some q) (new:ObjOk X.prog X.w (upd H a ob) h' a ob) :
  Inv X pins σ (upd H a ob) { s with heap:=h',toks:=t' } :=
 I.write (x:=a) (e:=a) c (.inl rfl) (λb q hb z=>(d.2 b hb).trans z) f new
end
def zlq:List (TE × TE)->St->Hp->(List (V × V)->Hp->Prop)->Prop
 | [],_,H,Q=>Q [] H
 | (tk,tv)::r,σ,H,Q=>tk σ H λx H1=>tv σ H1 λy b=>zlq r σ b λps a=>Q ((x,y)::ps) a
abbrev VV:List (V × V)->List (Value × Value)->Prop:=Paired λp q=>RelV p.1 q.1/\RelV p.2 q.2
def PPs (X:Cx) (pos:Pos) (keys:List (Option Expr)) (values:List Expr) (a:List (TE × TE)):Prop :=
 ∀ (pins:List (Addr × Obj)) (s:Shared) (σ:St) (H:Hp) (Q:List (V × V)->Hp->Prop),Inv X pins σ H s->zlq a σ H Q ->
  wpAny (model X.prog X.w) X.A (evalPairs (pairTrees keys values X.env pos)) (λvs s'=>∃ ps H',Inv X pins σ H' s'/\VV ps vs/\Q ps H') X.xe s
theorem zmh {X:Cx}{pos:Pos}:PPs X pos [] [] []:=λpins s σ H Q I h=>pairTrees_nil_walk ⟨[],H,I,.nil,h⟩
theorem zkp {X:Cx}{pos:Pos}{k v:Expr}{ks:List (Option Expr)}{vs:List Expr}{tk tv:TE}{a:List (TE × TE)}(j:PE X k tk) (g:PE X v tv) (i:PPs X pos ks vs a) :
  PPs X pos (some k::ks) (v::vs) ((tk,tv)::a):=λpins s σ H Q I h =>
 pairTrees_cons_walk (thn (j pins s σ H _ I h) λu s1 ⟨x,H1,n,c,f⟩=>thn (g pins s1 σ H1 _ n f) λq s2 ⟨y,p,m,b,e⟩ =>
  thn (i pins s2 σ p _ m e) λws r ⟨ps,o,l,rel,d⟩=>⟨(x,y)::ps,o,l,.cons ⟨c,b⟩ rel,d⟩)
structure M1 (X:Cx) (o:Expr) (m:Str) (apos:Pos) (e:Expr) (cpos:Pos):Prop where
 base:attributeBase o m X.env (eval o X.env)=eval o X.env
 few:((backTo cpos (starEach [e] X.env)).all (λx=>!x.1) && (backToKw cpos (keywordEach [] X.env)).all (λx=>x.1.isSome)
  && decide (([e]:List Expr).length+([]:List Keyword).length+(if ([]:List Keyword).isEmpty then 0 else 1)<30))=true
 line:(apos.endLine == cpos.line)=true
 trees:backTo cpos (starEach [e] X.env)=[(false,eval e X.env)]
structure M2 (X:Cx) (o:Expr) (m:Str) (apos:Pos) (e f:Expr) (cpos:Pos):Prop where
 base:attributeBase o m X.env (eval o X.env)=eval o X.env
 few:((backTo cpos (starEach [e,f] X.env)).all (λx=>!x.1) && (backToKw cpos (keywordEach [] X.env)).all (λx=>x.1.isSome)
  && decide (([e,f]:List Expr).length+([]:List Keyword).length+(if ([]:List Keyword).isEmpty then 0 else 1)<30))=true
 line:(apos.endLine == cpos.line)=true
 trees:backTo cpos (starEach [e,f] X.env)=[(false,eval e X.env),(false,eval f X.env)]
end L2
namespace L2
open PySem PySem.Spec PyProof.Rows Own
theorem zj3:∀ {ds:List PyData}{n:Nat},(∀ e∈ds,e.canLay0=true/\e.depth<=n)->PyData.canLayAll0 ds=true/\PyData.depthAll ds<=n
 | [],_,_=>⟨rfl,JS _⟩
 | d::ds,n,h=>by
  obtain⟨c,g⟩:=h d JC;obtain⟨b,f⟩:=zj3 (ds:=ds) λe a=>h e (JB _ a);refine⟨?_,?_⟩
  ·show (d.canLay0 && PyData.canLayAll0 ds)=true
   rw[c,b];rfl
  ·show max d.depth (PyData.depthAll ds)<=n
   lia
abbrev KI:=Int ⊕ List Int
abbrev KN:=List KI
section
variable (prog:Program)(w:World)
def NIt (h:Heap):KI->Value->Prop
 | .inl i,v=>∃ t,v=.int i t
 | .inr xs,v=>∃ b,v=.ref b/\IsTupleKey (zaZ prog w) h (xs.map Sum.inl) b
def NIts (h:Heap):KN->List Value->Prop
 | [],vs=>vs=[]
 | k::ks,vs=>∃ v r,vs=v::r/\NIt prog w h k v/\NIts h ks r
def NIs (h:Heap) (ks:KN) (a:Addr):Prop:=∃ o items n,h.get? a=some o/\o.cls=.type "tuple"/\o.data=.seq items n/\NIts prog w h ks items.toList
def nh1:KI->Int
 | .inl i=>hashInt i
 | .inr xs=>tupleKeyHash (zaZ prog w) (xs.map Sum.inl)
def nd1:KI->Nat
 | .inl _=>1
 | .inr xs=>xs.length+1
def nds (ks:KN):Nat:=(ks.map nd1).sum
end
variable {prog:Program}{w:World}{A:Around}{E:Value->Shared->Prop}
theorem zmZ {a b:List Int}(h:a.map (Sum.inl:Int->Key)=b.map Sum.inl):a=b :=
 List.map_inj_right (λx y e=>Sum.inl.inj e) |>.mp h
theorem NIt.inj {h:Heap}{x y:KI}{v:Value}(a:NIt prog w h x v) (b:NIt prog w h y v):x=y:=by
 cases x with
 | inl i =>
  obtain⟨t,rfl⟩:=a
  cases y with
  | inl j=>obtain⟨u,e⟩:=b;cases e;rfl
  | inr ys=>obtain⟨b,e,_⟩:=b;cases e
 | inr xs =>
  obtain⟨c,rfl,f⟩:=a
  cases y with
  | inl j=>obtain⟨u,e⟩:=b;cases e
  | inr ys =>
   obtain⟨d,e,hd⟩:=b;cases e;rw[zmZ (f.inj hd)]
theorem NIts.inj {h:Heap}:∀ {x y:KN}{vs:List Value},NIts prog w h x vs->NIts prog w h y vs->x=y
 | [],[],_,_,_=>rfl
 | [],_::_,_,a,b=>by obtain⟨v,r,e,_⟩:=b;rw[show _=[] from a]at e;cases e
 | _::_,[],_,a,b=>by obtain⟨v,r,e,_⟩:=a;rw[show _=[] from b]at e;cases e
 | x::xs,y::ys,_,a,b=>by
  obtain⟨v,r,rfl,g,f⟩:=a;obtain⟨i,j,e,d,c⟩:=b;cases e;rw[g.inj d,NIts.inj f c]
theorem NIs.inj {h:Heap}{x y:KN}{a:Addr}(p:NIs prog w h x a) (q:NIs prog w h y a):x=y:=by
 obtain⟨o,its,n,h1,_,e,d⟩:=p;obtain⟨o',its',g,c,_,b,f⟩:=q;rw[h1]at c;cases c;rw[e]at b;cases b;exact d.inj f
theorem NIt.keeps {h h':Heap}{d:Addr}{o:Obj}{es ep} (hd:h.get? d=some o) (c:o.data=.dict es ep) (s:Heap.SameBut d h h') {k:KI}{v:Value}(a:NIt prog w h k v):NIt prog w h' k v:=by
 cases k with
 | inl i=>exact a
 | inr xs =>
  obtain⟨b,e,hb⟩:=a;exact⟨b,e,hb.keeps hd c s⟩
theorem NIts.keeps {h h':Heap}{d:Addr}{o:Obj}{es ep} (hd:h.get? d=some o) (b:o.data=.dict es ep) (s:Heap.SameBut d h h'):∀ {ks:KN}{vs:List Value},NIts prog w h ks vs->NIts prog w h' ks vs
 | [],_,a=>a
 | k::ks,_,a=>by
  obtain⟨v,r,e,f,c⟩:=a;exact⟨v,r,e,f.keeps hd b s,NIts.keeps hd b s c⟩
theorem NIs.keeps {h h':Heap}{ks:KN}{a d:Addr}{o:Obj}{es ep} (p:NIs prog w h ks a) (hd:h.get? d=some o) (c:o.data=.dict es ep) (s:Heap.SameBut d h h'):NIs prog w h' ks a:=by
 obtain⟨o',its,n,h1,f,b,e⟩:=p;refine⟨o',its,n,?_,f,b,e.keeps hd c s⟩;rw[s.2 a (by rintro rfl;rw[hd]at h1;cases h1;rw[c]at b;cases b)];exact h1
theorem zdU:∀ (ks:KN) (vs:List Value) (c:Array Int) (s:Shared) (Q:Array Int->Shared->Prop),A.units<cLine->NIts prog w s.heap ks vs->Q (c++(ks.map (nh1 prog w)).toArray) { s with toks:=s.toks+nds ks } ->
  wpAny (model prog w) A (forIn vs c λx c=>(do let r <- pyHash x;pure (ForInStep.yield (c.push r)))) Q E s
 | [],vs,c,s,Q,d,a,q=>by
  rw[show vs=[] from a,YS];refine J7 ?_
  simpa [nds] using q
 | k::ks,vs,c,s,Q,d,a,q=>by
  obtain⟨v,r,rfl,f,h⟩:=a;rw[Yy]
  have g:∀ (m:Nat),m=nd1 k->({ s with toks:=s.toks+m+nds ks }:Shared)={ s with toks:=s.toks+nds (k::ks) }:=λm e=>by
   subst e;unfold nds;rw[Y6,List.sum_cons,ZA]
  have e2:c.push (nh1 prog w k)++(ks.map (nh1 prog w)).toArray=c++((k::ks).map (nh1 prog w)).toArray:=by simp
  have go:∀ (m:Nat),m=nd1 k->wpAny (model prog w) A (forIn r (c.push (nh1 prog w k)) λx c=>(do let r <- pyHash x;pure (ForInStep.yield (c.push r)))) Q E { s with toks:=s.toks+m }:=λm e =>
   zdU ks r (c.push (nh1 prog w k)) { s with toks:=s.toks+m } Q d h (by rw[e2];have:=g m e;simp only at this ⊢;rw[this];exact q)
  cases k with
  | inl i =>
   obtain⟨t,rfl⟩:=f
   exact J0 (J0 (wpAny_pyHash_int (J7 (go 1 rfl))))
  | inr xs =>
   obtain⟨b,rfl,hb⟩:=f;exact J0 (J0 (wpAny_pyHash_tuple d hb (J7 (go _ (by rw[Jm];rfl)))))
theorem zjs {s:Shared}{a:Addr}{ks:KN}{Q:Int->Shared->Prop}(c:A.units+1<cLine) (d:NIs prog w s.heap ks a)
  (q:Q (reduceHash (Builtin.Tuple.tupleHashOf (ks.map (nh1 prog w)))) { s with toks:=s.toks+(nds ks+1) }):wpAny (model prog w) A (pyHash (.ref a)) Q E s:=by
 obtain⟨o,its,n,b,e,hd,hi⟩:=d;show wpAny (model prog w) A (pyHashByItsType (.ref a)) Q E s;refine W.pyHash_slot (T:="tuple") (id:="tuple.__hash__") (B:=Builtin.«tuple.__hash__») ⟨o,b,e⟩ F.slot_tuple_hash F.entry_tuple_hash (F.args_tuple_hash_1 _) (by decide) (.inr (by lia)) ?_;unfold Builtin.«tuple.__hash__»;refine J0 ?_;show wpAny _ _ (pure _) _ _ _;refine J7 (J0 (wpAny_tupleItemsOf b hd ?_));rw[<- Array.forIn_toList];refine J0 (zdU ks _ _ s _ c hi ?_);simp only[Array.empty_append];unfold retInt;exact J0 (wpAny_mkInt (J7 ⟨_,_,rfl,q⟩))
theorem zeR {i:Int}{t:Tok}{n:Nat}{s:Shared}{Q:Bool->Shared->Prop}(q:Q true s):wpAny (model prog w) A (eqIsQuiet n (.int i t)) Q E s:=by
 cases n<;>exact J7 q
theorem zc8 {n:Nat}{s:Shared}:∀ (vs:List Value) (Q:Option Bool × Unit->Shared->Prop),(∀ v∈vs,∀ R:Bool->Shared->Prop,R true s->wpAny (model prog w) A (eqIsQuiet n v) R E s)->Q (none,()) s ->
  wpAny (model prog w) A (forIn vs ((none,()):Option Bool × Unit) λy _=>(do
   let b <- eqIsQuiet n y
   if (!b)=true then pure (ForInStep.done (some false,())) else pure (ForInStep.yield (none,())))) Q E s
 | [],Q,_,q=>by rw[YS];exact J7 q
 | v::vs,Q,h,q=>by
  rw[Yy];exact J0 (J0 (h v JC _ (J7 (zc8 vs Q (λu a=>h u (JB _ a)) q))))
theorem zeQ {s:Shared}{a:Addr}{o:Obj}{its:Array Value}{m n:Nat}{Q:Bool->Shared->Prop}(c:s.heap.get? a=some o) (d:o.cls=.type "tuple") (hd:o.data=.seq its m)
  (h:∀ v∈its.toList,∀ R:Bool->Shared->Prop,R true s->wpAny (model prog w) A (eqIsQuiet n v) R E s) (q:Q true s):wpAny (model prog w) A (eqIsQuiet (n+1) (.ref a)) Q E s:=by
 have ty:s.TypeIs (.ref a) "tuple":=⟨o,c,d⟩;unfold eqIsQuiet;refine J0 (Zj (T:="tuple") ty F.slot_tuple_eq.lookup (J0 (Zr (T:="tuple") (b:=true) ty rfl ?_)));show wpAny _ _ (do let _ <- seqItems? _;_) _ _ _;refine J0 (Y3 c hd (J0 ?_));rw[ZJ,<- Array.forIn_toList];exact zc8 _ _ h (J7 q)
theorem NIts.mem {h:Heap}:∀ {ks:KN}{vs:List Value},NIts prog w h ks vs->∀ v∈vs,∃ k,NIt prog w h k v
 | [],_,a,v,b=>by rw[show _=[] from a]at b;cases b
 | k::ks,_,a,v,b=>by
  obtain⟨x,r,rfl,d,c⟩:=a;rcases Jh.mp b with rfl|z
  ·exact⟨k,d⟩
  ·exact NIts.mem c v z
theorem zgL {i:Int}{v:Value}(h:(zaZ prog w).is (.inl i) v=true):∃ t,v=.int i t:=by
 rw[zhu]at h;rcases zaG h with ⟨j,t,e,rfl⟩|⟨x,t,e,_⟩
 ·cases e;exact⟨t,rfl⟩
 ·cases e
theorem zhF {ks:List Key}{vs:List Value}(h:ItemsAre (zaZ prog w) ks vs):∀ xs:List Int,ks=xs.map Sum.inl->∀ v∈vs,∃ i t,v=.int i t:=by
 induction h with
 | nil=>intro xs _ v a;cases a
 | cons b _ ih =>
  intro xs e v a
  cases xs with
  | nil=>cases e
  | cons x xs =>
   rw[Y6]at e;injection e with c e2;subst c;rcases Jh.mp a with rfl|z
   ·obtain⟨t,e⟩:=zgL b
    exact⟨x,t,e⟩
   ·exact ih xs e2 v z
theorem items_int {ks:List Int}{vs:List Value}(h:ItemsAre (zaZ prog w) (ks.map Sum.inl) vs):∀ v∈vs,∃ i t,v=.int i t:=zhF h ks rfl
theorem zdK {s:Shared}{a:Addr}{ks:KN}{Q:Bool->Shared->Prop}(c:NIs prog w s.heap ks a) (q:Q true s):wpAny (model prog w) A (eqIsQuiet 8 (.ref a)) Q E s:=by
 obtain⟨o,its,n,l,m,hd,hi⟩:=c;refine zeQ l m hd (λv h R r=>?_) q;obtain⟨k,c⟩:=hi.mem v h
 cases k with
 | inl i=>obtain⟨t,rfl⟩:=c;exact zeR r
 | inr xs =>
  obtain⟨b,rfl,o2,p,n2,d,g,f,e⟩:=c;refine zeQ d g f (λu j R r=>?_) r;obtain⟨i,t,rfl⟩:=items_int e u j;exact zeR r
def dI:KI->PyData
 | .inl i=>.int i
 | .inr xs=>.tuple (xs.map PyData.int)
def dN (ks:KN):PyData:=.tuple (ks.map dI)
theorem zhi {h:Heap}{ks:List Key}{vs:List Value}(a:ItemsAre (zaZ prog w) ks vs):∀ xs:List Int,ks=xs.map Sum.inl->∃ as,ReadsAll h vs (xs.map PyData.int) as:=by
 induction a with
 | nil =>
  intro xs e
  cases xs with
  | nil=>exact⟨_,.nil⟩
  | cons x xs=>cases e
 | cons b _ ih =>
  intro xs e
  cases xs with
  | nil=>cases e
  | cons x xs =>
   rw[Y6]at e;injection e with c e2;subst c;obtain⟨t,rfl⟩:=zgL b;obtain⟨as,r⟩:=ih xs e2;exact⟨_,.cons (.int x t) r⟩
theorem NIt.reads {h:Heap}{k:KI}{v:Value}(a:NIt prog w h k v):∃ as,Reads h v (dI k) as:=by
 cases k with
 | inl i=>obtain⟨t,rfl⟩:=a;exact⟨_,.int i t⟩
 | inr xs =>
  obtain⟨b,rfl,o,its,n,h1,e,d,c⟩:=a;obtain⟨as,r⟩:=zhi (h:=h) c xs rfl;exact⟨_,.tuple h1 e d r⟩
theorem NIts.reads {h:Heap}:∀ {ks:KN}{vs:List Value},NIts prog w h ks vs->∃ as,ReadsAll h vs (ks.map dI) as
 | [],_,a=>by rw[show _=[] from a];exact⟨_,.nil⟩
 | k::ks,_,a=>by
  obtain⟨v,r,rfl,c,b⟩:=a;obtain⟨as,p⟩:=c.reads;obtain⟨bs,q⟩:=NIts.reads b;exact⟨_,.cons p q⟩
theorem NIs.reads {h:Heap}{ks:KN}{a:Addr}(p:NIs prog w h ks a):∃ as,Reads h (.ref a) (dN ks) as:=by
 obtain⟨o,its,n,h1,d,c,b⟩:=p;obtain⟨as,r⟩:=b.reads;exact⟨_,.tuple h1 d c r⟩
theorem zgZ:∀ (x y:List Int),PyData.eqvAll (x.map PyData.int) (y.map PyData.int)=decide (x=y)
 | [],[]=>rfl
 | [],_::_=>rfl
 | _::_,[]=>rfl
 | a::x,b::y=>by
  show (PyData.eqv (.int a) (.int b) && PyData.eqvAll (x.map PyData.int) (y.map PyData.int))=_;rw[zgZ x y,show PyData.eqv (.int a) (.int b)=(a == b) from rfl,YE];simp
theorem zn2 (x y:KI):PyData.eqv (dI x) (dI y)=decide (x=y):=by
 cases x<;>cases y
 ·rw[show PyData.eqv (dI (.inl _)) (dI (.inl _))=(_ == _) from rfl,YE];simp
 ·rfl
 ·rfl
 ·show PyData.eqvAll _ _=_
  rw[zgZ,YE];simp
theorem zjC:∀ (x y:KN),PyData.eqvAll (x.map dI) (y.map dI)=decide (x=y)
 | [],[]=>rfl
 | [],_::_=>rfl
 | _::_,[]=>rfl
 | a::x,b::y=>by
  show (PyData.eqv (dI a) (dI b) && PyData.eqvAll (x.map dI) (y.map dI))=_;rw[zjC x y,zn2,YE];simp
theorem zgS:∀ x:List Int,PyData.canLayAll0 (x.map PyData.int)=true/\PyData.depthAll (x.map PyData.int)<=0
 | []=>⟨rfl,Jg _⟩
 | a::x=>by
  obtain⟨p,q⟩:=zgS x;refine⟨?_,?_⟩
  ·show (PyData.canLay0 (.int a) && PyData.canLayAll0 (x.map PyData.int))=true
   rw[p];rfl
  ·show max 0 (PyData.depthAll (x.map PyData.int))<=0
   lia
theorem zjf (ks:KN):(dN ks).canLay0=true/\(dN ks).depth<=2:=by
 have key:∀ e∈ks.map dI,e.canLay0=true/\e.depth<=1:=λe a=>by
  obtain⟨k,_,rfl⟩:=JH.mp a
  cases k with
  | inl i=>exact⟨rfl,by show 0<=1;lia⟩
  | inr xs =>
   obtain⟨p,q⟩:=zgS xs;refine⟨p,?_⟩;show PyData.depthAll (xs.map PyData.int)+1<=1;lia
 obtain⟨p,q⟩:=zj3 key;refine⟨p,?_⟩;show PyData.depthAll (ks.map dI)+1<=2;lia
theorem zm5 {s:Shared}{x y:KN}{a b:Addr}{Q:Bool->Shared->Prop}(j:A.units+2<cLine) (h:NIs prog w s.heap x a) (g:NIs prog w s.heap y b) (q:Q (decide (x=y)) s):wpAny (model prog w) A (eqBool (.ref a) (.ref b)) Q E s:=by
 obtain⟨as,d⟩:=h.reads;obtain⟨bs,c⟩:=g.reads;obtain⟨f,p2⟩:=zjf x;obtain⟨e,i⟩:=zjf y;refine PySem.SeqAt.eqBoolOverData prog w A E s _ _ _ _ as bs Q d c f e (by lia) ?_;rw[show PyData.eqv (dN x) (dN y)=PyData.eqvAll (x.map dI) (y.map dI) from rfl,zjC];exact q
variable (prog w)
def zbo:HeapKind prog w KN where
 is:=NIs prog w
 hash:=λks=>reduceHash (Builtin.Tuple.tupleHashOf (ks.map (nh1 prog w)))
 draws:=λks=>nds ks+1
 room:=λA=>A.units+2<cLine
 inj:=λb a=>NIs.inj b a
 keeps:=λx f hd e=>NIs.keeps x f hd e
 pyHash:=λd c h=>zjs (by lia) c h
 eqBool:=λd b a h=>zm5 d b a h
 quiet:=λc h=>zdK c h
end L2
namespace Ts
open PySem PyProof.Rows
structure Cmp (prog:Program) (w:World) (A:Around) (s:Shared) (κ:SortKind) (P:Keyed->Prop) (rk:Keyed->Int):Prop where
 ask:∀ (x y:Keyed),P x->P y->∀ {Q:Bool->Shared->Prop}{E:Value->Shared->Prop},Q (decide (rk x<rk y)) s->wpAny (model prog w) A (keyLt' κ x.1 y.1) Q E s
def R (rk:Keyed->Int) (xs:Array Keyed) (i:Nat):Int:=match xs[i]? with
 | some p=>rk p
 | none=>0
theorem R_congr {rk:Keyed->Int}{xs ys:Array Keyed}{i j:Nat}(h:xs[i]?=ys[j]?):R rk xs i=R rk ys j:=by unfold R;rw[h]
def Up (rk:Keyed->Int) (xs:Array Keyed) (lo n:Nat):Prop:=∀ i j,lo<=i->i<=j->j<lo+n->R rk xs i<=R rk xs j
def Dn (rk:Keyed->Int) (xs:Array Keyed) (lo n:Nat):Prop:=∀ i j,lo<=i->i<=j->j<lo+n->R rk xs j<=R rk xs i
structure Bs (κ:SortKind) (P:Keyed->Prop) (a₀:Array Keyed) (st:SortSt):Prop where
 kind:kindOf st=κ
 fail:failedOf st=none
 perm:(arrOf st).Perm a₀
 all:∀ p∈a₀.toList,P p
theorem Bs.size {κ:SortKind}{P:Keyed->Prop}{a₀:Array Keyed}{st:SortSt}(h:Bs κ P a₀ st):(arrOf st).size=a₀.size:=h.perm.size_eq
theorem Bs.at {κ:SortKind}{P:Keyed->Prop}{a₀:Array Keyed}{st:SortSt}(h:Bs κ P a₀ st) {i:Nat}(hi:i<a₀.size) (rk:Keyed->Int):∃ p,(arrOf st)[i]?=some p/\P p/\R rk (arrOf st) i=rk p:=by
 have e:(arrOf st)[i]?=some ((arrOf st)[i]'(by rw[h.size];exact hi)):=getElem?_pos (arrOf st) i (by rw[h.size];exact hi);refine⟨_,e,h.all _ ((Array.perm_iff_toList_perm.mp h.perm).mem_iff.mp (by simp)),?_⟩;unfold R;rw[e]
theorem Bs.arr {κ:SortKind}{P:Keyed->Prop}{a₀:Array Keyed}{st:SortSt}(h:Bs κ P a₀ st) {xs:Array Keyed}(a:xs.Perm (arrOf st)):Bs κ P a₀ (setArr st xs):=⟨h.kind,h.fail,a.trans h.perm,h.all⟩
section
variable {prog:Program}{w:World}{A:Around}{E:Value->Shared->Prop}{s:Shared}{κ:SortKind}{P:Keyed->Prop}{rk:Keyed->Int}{a₀:Array Keyed}
theorem zi7 (C:Cmp prog w A s κ P rk) {st:SortSt}{x y:Keyed}{Q:Option Bool->SortSt->Prop}(b:kindOf st=κ) (a:P x) (py:P y) (h:Q (some (decide (rk x<rk y))) st):wpS (model prog w) A E s (lt' x y) Q st:=by
 rw[lt'_eq];refine Jr (Wp (Jr (wpS_lift (Zc ?_))));rw[b];exact C.ask x y a py ⟨rfl,Jp h⟩
theorem zcA {r:String}{st:SortSt}{Q:Unit->SortSt->Prop}(h:Q () st):wpS (model prog w) A E s (liftM (rule r):StateT SortSt Sem Unit) Q st:=wpS_lift (YR ⟨rfl,h⟩)
theorem zan {st:SortSt}{arr:Array Keyed}{i:Nat}{p:Keyed}{Q:Keyed->SortSt->Prop}(e:arr[i]?=some p) (h:Q p st):wpS (model prog w) A E s (elem' arr i) Q st:=by
 rw[elem'_eq,e];exact Jp h
theorem zi8 (C:Cmp prog w A s κ P rk) {st:SortSt}{i j:Nat}{Q:Option Bool->SortSt->Prop}(a:Bs κ P a₀ st) (hi:i<a₀.size) (e:j<a₀.size) (h:Q (some (decide (R rk (arrOf st) i<R rk (arrOf st) j))) st):wpS (model prog w) A E s (ltAt' i j) Q st:=by
 obtain⟨p,f,pp,c⟩:=a.at hi rk;obtain⟨q,e2,d,b⟩:=a.at e rk;rw[c,b]at h;rw[ltAt'_eq];exact Jr (Wp (Jr (zan f (Jr (zan e2 (zi7 C a.kind pp d h))))))
structure Keep (κ:SortKind) (P:Keyed->Prop) (rk:Keyed->Int) (a₀:Array Keyed) (lo:Nat) (st st':SortSt):Prop where
 b:Bs κ P a₀ st'
 pend:pendingOf st'=pendingOf st
 low:∀ k,k<lo->R rk (arrOf st') k=R rk (arrOf st) k
theorem Keep.refl {lo:Nat}{st:SortSt}(h:Bs κ P a₀ st):Keep κ P rk a₀ lo st st:=⟨h,rfl,λ_ _=>rfl⟩
theorem Keep.trans {lo:Nat}{st a st2:SortSt}(h:Keep κ P rk a₀ lo st a) (g:Keep κ P rk a₀ lo a st2):Keep κ P rk a₀ lo st st2:=⟨g.b,g.pend.trans h.pend,λk b=>(g.low k b).trans (h.low k b)⟩
theorem R_mirror {xs:Array Keyed}{i j:Nat}(a:j<=xs.size) (k:Nat):R rk (mirror xs i j ((j-i) / 2)) k=if i<=k/\k<j then R rk xs (i+j-1-k) else R rk xs k:=by
 have e:=getElem?_mirror_all (xs:=xs) (i:=i) a k;split at e
 ·next h=>rw[Jf h];exact R_congr e
 ·next h=>rw[Ja h];exact R_congr e
theorem zgy {lo i j:Nat}{st:SortSt}{Q:Unit->SortSt->Prop}(a:Bs κ P a₀ st) (c:lo<=i) (b:j<=a₀.size)
  (h:∀ st',Keep κ P rk a₀ lo st st'->(∀ k,R rk (arrOf st') k=if i<=k/\k<j then R rk (arrOf st) (i+j-1-k) else R rk (arrOf st) k)->Q () st'):wpS (model prog w) A E s (reverseSlice' i j) Q st:=by
 rw[reverseSlice'_eq];refine Wx (h _ ⟨a.arr (mirror_perm _ _ _ _),rfl,λk d=>?_⟩ λk=>?_)
 ·show R rk (mirror (arrOf st) i j ((j-i) / 2)) k=_
  rw[R_mirror (by rw[a.size];exact b),Ja (by lia)]
 ·exact R_mirror (by rw[a.size];exact b) k
theorem zlh (C:Cmp prog w A s κ P rk) {st:SortSt}{lo g:Nat}{Q:Option Nat->SortSt->Prop}(v:Bs κ P a₀ st) (h1:1<=g) (hn:lo+g<=a₀.size)
  (h:∀ st' m,Keep κ P rk a₀ lo st st'->1<=m->m<=g->Up rk (arrOf st') lo m->Q (some m) st'):wpS (model prog w) A E s (countRun' lo g) Q st:=by
 have asc:∀ (st:SortSt) (u:Nat) {U:Option (Option Nat) × Nat->SortSt->Prop},Bs κ P a₀ st->1<=u->Up rk (arrOf st) lo u ->
   (∀ n,u<=n->n<=max u g->Up rk (arrOf st) lo n->(n<g->R rk (arrOf st) (lo+n)<R rk (arrOf st) (lo+n-1))->U (none,n) st)->
   ∀ f:Nat->Option (Option Nat) × Nat->StateT SortSt Sem (ForInStep (Option (Option Nat) × Nat)),(∀ i n,f i (none,n)=(do
    let some t <- ltAt' (lo+n) (lo+n-1)|pure (.done (some none,n))
    if t then pure (.done (none,n)) else pure (.yield (none,n+1))))->wpS (model prog w) A E s (forIn [u:g] (none,u) f) U st:=by
  intro st u U v h0 y B f hf;refine YB (I:=λi c st'=>st'=st/\c=(none,i)/\u<=i/\Up rk (arrOf st) lo i) ?_ ?_ ⟨rfl,rfl,Jg _,y⟩
  ·rintro i c st' hi X ⟨rfl,rfl,K,o⟩
   rw[hf];refine Jr (zi8 C v (by lia) (by lia) ?_);by_cases z:R rk (arrOf st') (lo+i)<R rk (arrOf st') (lo+i-1)
   ·rw[JG z]
    exact Jp (B i K (by lia) o λ_=>z)
   ·rw[Jv z]
    refine Jp ⟨rfl,rfl,by lia,λa b ha j hb=>?_⟩;by_cases q:b<lo+i
    ·exact o a b ha j q
    ·obtain rfl:b=lo+i:=by lia
     by_cases G:a=lo+i
     ·rw[G];exact Wb _
     ·have:=o a (lo+i-1) ha (by lia) (by lia)
      lia
  ·rintro c st' ⟨rfl,rfl,K,o⟩
   exact B _ K (Jg _) o λq=>by lia
 rw[countRun'_eq];refine Jr (asc st 1 v (Jg _) (λa b h1 h2 K=>by rw[show a=b by lia];exact Wb _) (λn n1 n2 y S=>?_) _ (λi n=>rfl));dsimp only;by_cases z:n=g
 ·subst z
  rw[Jf (beq_self_eq_true _)];exact Jp (h _ _ (Keep.refl v) n1 (Jg _) y)
 rw[Ja (by simpa using z)];have nl:n<g:=by lia
 have S:=S nl;generalize hT:(bind (liftM (rule "list.sort.descending-run")) _:StateT SortSt Sem (Option Nat))=T
 have tail:∀ l,Keep κ P rk a₀ lo st l->Dn rk (arrOf l) lo n->R rk (arrOf l) (lo+n)<R rk (arrOf l) (lo+n-1)->wpS (model prog w) A E s T Q l:=by
  intro l W d1 l1;rw[<- hT];refine Jr (zcA ?_)
  have last:∀ st2 m,Keep κ P rk a₀ lo st st2->1<=m->m<=g->Dn rk (arrOf st2) lo m->∀ d,Keep κ P rk a₀ lo st2 d->(∀ k,R rk (arrOf d) k=if lo<=k/\k<lo+m then R rk (arrOf st2) (lo+(lo+m)-1-k) else R rk (arrOf st2) k)->Up rk (arrOf d) lo m:=by
   intro st2 m p M m2 r d x D a b ha j hb;rw[D,D,Jf ⟨by lia,by lia⟩,Jf ⟨by lia,by lia⟩];exact r _ _ (by lia) (by lia) (by lia)
  refine Jr (Zf (YB (I:=λi c st2=>∃ m q,c=(none,m,q)/\m=i/\q+1<=m/\Keep κ P rk a₀ lo st st2/\(i<=g->Dn rk (arrOf st2) lo m/\∀ k,lo+m-(q+1)<=k->k<lo+m->R rk (arrOf st2) k=R rk (arrOf st2) (lo+m-1)))
   (Q:=λc st2=>∃ m q,c=(none,m,q)/\1<=m/\m<=g/\q+1<=m/\Keep κ P rk a₀ lo st st2/\Dn rk (arrOf st2) lo m/\∀ k,lo+m-(q+1)<=k->k<lo+m->R rk (arrOf st2) k=R rk (arrOf st2) (lo+m-1)) ?step ?fin ?init) ?post)
  case init =>
   refine⟨n+1,0,rfl,rfl,by lia,W,λ_=>⟨λa b ha j hb=>?_,λk O N=>by rw[show k=lo+(n+1)-1 by lia]⟩⟩;by_cases q:b<lo+n
   ·exact d1 a b ha j q
   ·obtain rfl:b=lo+n:=by lia
    by_cases G:a=lo+n
    ·rw[G];exact Wb _
    ·have:=d1 a (lo+n-1) ha (by lia) (by lia)
     lia
  case fin =>
   rintro c st2 ⟨m,q,rfl,e,B,p,hd⟩;obtain⟨r,eq2⟩:=hd (by lia);exact⟨m,q,rfl,by lia,by lia,B,p,r,eq2⟩
  case step =>
   rintro i c st2 hi X ⟨m,q,rfl,rfl,B,p,hd⟩;obtain⟨r,eq2⟩:=hd (by lia);dsimp only;refine Jr (zi8 C p.b (by lia) (by lia) ?_)
   have more:∀ d,Dn rk (arrOf d) lo m->R rk (arrOf d) (lo+m)<=R rk (arrOf d) (lo+m-1)->Dn rk (arrOf d) lo (m+1):=by
    intro d L le a b ha j hb;by_cases q:b<lo+m
    ·exact L a b ha j q
    ·obtain rfl:b=lo+m:=by lia
     by_cases G:a=lo+m
     ·rw[G];exact Wb _
     ·have:=L a (lo+m-1) ha (by lia) (by lia)
      lia
   by_cases z1:R rk (arrOf st2) (lo+m)<R rk (arrOf st2) (lo+m-1)
   ·rw[JG z1]
    dsimp only;rw[Jf rfl];by_cases F:q > 0
    ·rw[Jf F]
     refine Jr (zgy (rk:=rk) (lo:=lo) p.b (by lia) (by lia) λd x D=>Jp ?_)
     have same:∀ k,R rk (arrOf d) k=R rk (arrOf st2) k:=λk=>by
      rw[D];split
      ·rw[eq2 _ (by lia) (by lia),eq2 k (by lia) (by lia)]
      ·rfl
     refine⟨m+1,0,rfl,rfl,by lia,p.trans x,λ_=>⟨more d (λa b ha j hb=>by rw[same,same];exact r a b ha j hb) (by rw[same,same];lia),λk O N=>by rw[show k=lo+(m+1)-1 by lia]⟩⟩
    ·rw[Ja F]
     exact Jp ⟨m+1,0,rfl,rfl,by lia,p,λ_=>⟨more st2 r (by lia),λk O N=>by rw[show k=lo+(m+1)-1 by lia]⟩⟩
   ·rw[Jv z1]
    dsimp only;rw[Ja Jq];refine Jr (zi8 C p.b (by lia) (by lia) ?_);by_cases z2:R rk (arrOf st2) (lo+m-1)<R rk (arrOf st2) (lo+m)
    ·rw[JG z2]
     dsimp only;rw[Jf rfl];exact Jp ⟨m,q,rfl,by lia,by lia,B,p,r,eq2⟩
    ·rw[Jv z2]
     dsimp only;rw[Ja Jq];have e:R rk (arrOf st2) (lo+m)=R rk (arrOf st2) (lo+m-1):=by lia
     refine Jp ⟨m+1,q+1,rfl,rfl,by lia,p,λ_=>⟨more st2 r (by lia),λk O N=>?_⟩⟩;rw[show lo+(m+1)-1=lo+m by lia];by_cases q3:k=lo+m
     ·rw[q3]
     ·rw[eq2 k (by lia) (by lia),e]
  case post =>
   rintro c st2 ⟨m,q,rfl,M,m2,B,p,r,eq2⟩;dsimp only;generalize Y:(bind (reverseSlice' lo (lo+m)) _:StateT SortSt Sem (Option Nat))=T2
   have on:∀ d,Keep κ P rk a₀ lo st d->Dn rk (arrOf d) lo m->wpS (model prog w) A E s T2 Q d:=by
    intro d x L;rw[<- Y];refine Jr (zgy (rk:=rk) (lo:=lo) x.b (by lia) (by lia) λH V r4=>?_);refine Jr (asc H m V.b M (last d m x M m2 L H V r4) (λn' a1 a2 o _=>?_) _ (λi n=>rfl));exact Jp (h _ _ (x.trans V) (by lia) (by lia) o)
   by_cases F:q > 0
   ·rw[Jf F]
    refine Jr (zgy (rk:=rk) (lo:=lo) p.b (by lia) (by lia) λd x D=>?_)
    have same:∀ k,R rk (arrOf d) k=R rk (arrOf st2) k:=λk=>by
     rw[D];split
     ·rw[eq2 _ (by lia) (by lia),eq2 k (by lia) (by lia)]
     ·rfl
    exact on d (p.trans x) (λa b ha j hb=>by rw[same,same];exact r a b ha j hb)
   ·rw[Ja F]
    exact on st2 p r
 by_cases z2:n > 1
 ·rw[Jf z2]
  refine Jr (zi8 C v (by lia) (by lia) ?_);by_cases Z:R rk (arrOf st) lo<R rk (arrOf st) (lo+n-1)
  ·rw[JG Z]
   exact Jp (h _ _ (Keep.refl v) n1 (by lia) y)
  ·rw[Jv Z]
   dsimp only;rw[Ja Jq];refine Jr (zgy (rk:=rk) (lo:=lo) v (by lia) (by lia) λl W J=>tail l W (λa b ha j hb=>?_) ?_)
   ·rw[J,J,Jf ⟨by lia,by lia⟩,Jf ⟨by lia,by lia⟩]
    exact y _ _ (by lia) (by lia) (by lia)
   ·rw[J,J,Ja (by lia),Jf ⟨by lia,by lia⟩]
    have:=y (lo+(lo+n)-1-(lo+n-1)) (lo+n-1) (by lia) (by lia) (by lia);have e:lo+(lo+n)-1-(lo+n-1)=lo:=by lia
    rw[e]at this ⊢;have:=y lo (lo+n-1) (by lia) (by lia) (by lia);lia
 ·rw[Ja z2]
  exact tail st (Keep.refl v) (λa b ha j hb=>by rw[show a=b by lia];exact Wb _) S
end
section
variable {prog:Program}{w:World}{A:Around}{E:Value->Shared->Prop}{s:Shared}{κ:SortKind}{P:Keyed->Prop}{rk:Keyed->Int}{a₀:Array Keyed}
theorem R_bubble {xs:Array Keyed}{src d:Nat}(b:src<xs.size) (hd:d<=src) (k:Nat):R rk (bubble xs src d) k=if k=src-d then R rk xs src else if src-d<k/\k<=src then R rk xs (k-1) else R rk xs k:=by
 have e:=getElem?_bubble (xs:=xs) b d hd k;by_cases h1:k=src-d
 ·rw[Jf h1]at e ⊢;exact R_congr e
 ·rw[Ja h1]at e ⊢
  by_cases a:(src-d<k/\k<=src)
  ·rw[Jf a]at e ⊢;exact R_congr e
  ·rw[Ja a]at e ⊢;exact R_congr e
theorem zn4 (C:Cmp prog w A s κ P rk) {st:SortSt}{lo n ok:Nat}{Q:Bool->SortSt->Prop}(F:Bs κ P a₀ st) (h1:1<=ok) (hok:ok<=n) (hn:lo+n<=a₀.size) (L:Up rk (arrOf st) lo ok)
  (h:∀ st',Keep κ P rk a₀ lo st st'->Up rk (arrOf st') lo n->Q true st'):wpS (model prog w) A E s (binarySort' lo n ok) Q st:=by
 rw[binarySort'_eq];rw[show max ok 1=ok by lia];refine Jr (Zf (YB (I:=λk c a=>c=(none,())/\Keep κ P rk a₀ lo st a/\Up rk (arrOf a) lo (min k n)) (Q:=λc a=>c=(none,())/\Keep κ P rk a₀ lo st a/\Up rk (arrOf a) lo n) ?step ?fin ?init) ?post)
 case init=>exact⟨rfl,Keep.refl F,by rwa [Nat.min_eq_left hok]⟩
 case fin =>
  rintro c a ⟨rfl,e,b⟩;rw[show min (max ok n) n=n by lia]at b;exact⟨rfl,e,b⟩
 case post =>
  rintro c a ⟨rfl,e,b⟩;exact Jp (h a e b)
 case step =>
  rintro k c a H G ⟨rfl,e,b⟩;rw[show min k n=k by lia]at b
  refine Jr (Zf (YB (I:=λx c st2=>st2=a/\∃ l r,c=(none,l,r)/\l<=r/\r<=k/\r-l<=k-x/\(∀ i,lo<=i->i<lo+l->R rk (arrOf a) i<=R rk (arrOf a) (lo+k))/\(∀ i,lo+r<=i->i<lo+k->R rk (arrOf a) (lo+k)<=R rk (arrOf a) i))
   (Q:=λc st2=>st2=a/\∃ l r,c=(none,l,r)/\l<=k/\(∀ i,lo<=i->i<lo+l->R rk (arrOf a) i<=R rk (arrOf a) (lo+k))/\(∀ i,lo+l<=i->i<lo+k->R rk (arrOf a) (lo+k)<=R rk (arrOf a) i)) ?istep ?ifin ?iinit) ?ipost)
  case iinit=>exact⟨rfl,0,k,rfl,by lia,by lia,by lia,λi _ _=>by lia,λi _ _=>by lia⟩
  case ifin =>
   rintro c st2 ⟨rfl,l,r,rfl,D,f,m,o,g⟩;obtain rfl:l=r:=by lia
   exact⟨rfl,l,l,rfl,f,o,g⟩
  case istep =>
   rintro x c st2 _ K ⟨rfl,l,r,rfl,D,f,m,o,g⟩;dsimp only;by_cases ge:l>=r
   ·rw[Jf ge]
    obtain rfl:l=r:=by lia
    exact Jp ⟨rfl,l,l,rfl,f,o,g⟩
   ·rw[Ja ge]
    refine Jr (zi8 C e.b (by lia) (by lia) ?_);by_cases z:R rk (arrOf st2) (lo+k)<R rk (arrOf st2) (lo+(l+r) / 2)
    ·rw[JG z]
     refine Jp ⟨rfl,l,(l+r) / 2,rfl,by lia,by lia,by lia,o,λi i1 i2=>?_⟩;have:=b (lo+(l+r) / 2) i (by lia) i1 (by lia);lia
    ·rw[Jv z]
     refine Jp ⟨rfl,(l+r) / 2+1,r,rfl,by lia,by lia,by lia,λi i1 i2=>?_,g⟩;have:=b i (lo+(l+r) / 2) i1 (by lia) (by lia);lia
  case ipost =>
   rintro c st2 ⟨rfl,l,r,rfl,J,o,g⟩;dsimp only;rw[moveDown'_eq];have sz:=e.b.size
   have q:∀ j,R rk (arrOf (setArr st2 (bubble (arrOf st2) (lo+k) (lo+k-(lo+l))))) j=if j=lo+l then R rk (arrOf st2) (lo+k) else if lo+l<j/\j<=lo+k then R rk (arrOf st2) (j-1) else R rk (arrOf st2) j:=λj=>by
    have:=R_bubble (rk:=rk) (xs:=arrOf st2) (src:=lo+k) (d:=lo+k-(lo+l)) (by rw[sz];lia) (by lia) j;rw[show lo+k-(lo+k-(lo+l))=lo+l by lia]at this;exact this
   refine Jr (Wx (Jp ⟨rfl,e.trans ⟨e.b.arr (bubble_perm _ _ _),rfl,λj u=>?_⟩,λi j hi t u=>?_⟩))
   ·rw[q,Ja (by lia),Ja (by lia)]
   ·rw[show min (k+1) n=k+1 by lia]at u
    rw[q,q];by_cases B:i=lo+l
    ·rw[Jf B]
     by_cases p:j=lo+l
     ·rw[Jf p];exact Wb _
     ·rw[Ja p,Jf ⟨by lia,by lia⟩]
      exact g _ (by lia) (by lia)
    ·rw[Ja B]
     by_cases y:lo+l<i/\i<=lo+k
     ·rw[Jf y,Ja (by lia),Jf ⟨by lia,by lia⟩]
      exact b _ _ (by lia) (by lia) (by lia)
     ·rw[Ja y]
      by_cases p:j=lo+l
      ·rw[Jf p];exact o _ hi (by lia)
      ·rw[Ja p]
       by_cases v:lo+l<j/\j<=lo+k
       ·rw[Jf v];exact b _ _ hi (by lia) (by lia)
       ·rw[Ja v];exact b _ _ hi t (by lia)
end
def zm2:Bool->Keyed->Array Keyed->Nat->Nat->Nat->StateT SortSt Sem (Option Nat):=sortPriv% PySem.Builtin.gallop
def bd (left:Bool) (k r:Int):Bool:=if left=true then decide (r<k) else !decide (k<r)
theorem znb {left:Bool}{k r a:Int}(h:r<=a) (b:bd left k a=true):bd left k r=true:=by
 unfold bd at *;cases left
 ·simp only[Yb,Zb,ZZ,Y2]at *;omega
 ·simp only[Yv,Ya]at *;omega
section
variable {prog:Program}{w:World}{A:Around}{E:Value->Shared->Prop}{s:Shared}{κ:SortKind}{P:Keyed->Prop}{rk:Keyed->Int}
theorem zjY (C:Cmp prog w A s κ P rk) {st:SortSt}{left:Bool}{key:Keyed}{arr:Array Keyed}{j:Nat}{Q:Option Bool->SortSt->Prop}(d:kindOf st=κ) (c:P key) (a:∃ p,arr[j]?=some p/\P p) (h:Q (some (bd left (rk key) (R rk arr j))) st) :
  wpS (model prog w) A E s (elem' arr j >>= λx=>if left=true then lt' x key else (lt' key x >>= λr=>pure (r.map λb=>!b))) Q st:=by
 obtain⟨p,e,pp⟩:=a;have r:R rk arr j=rk p:=by unfold R;rw[e]
 rw[r]at h;refine Jr (zan e ?_);unfold bd at h;cases left
 ·rw[Ja Jq]at h ⊢
  exact Jr (zi7 C d c pp (Jp h))
 ·rw[Jf rfl]at h ⊢
  exact zi7 C d pp c h
theorem zbq (C:Cmp prog w A s κ P rk) {st:SortSt}{left:Bool}{key:Keyed}{arr:Array Keyed}{base n hint:Nat}{Q:Option Nat->SortSt->Prop}(y:kindOf st=κ) (v:P key) (e:∀ i,i<n->∃ p,arr[base+i]?=some p/\P p) (T:Up rk arr base n) (U:hint<n)
  (h:∀ k,k<=n->(∀ i,i<k->bd left (rk key) (R rk arr (base+i))=true)->(∀ i,k<=i->i<n->bd left (rk key) (R rk arr (base+i))=false)->Q (some k) st):wpS (model prog w) A E s (zm2 left key arr base n hint) Q st:=by
 have F:∀ i j,i<=j->j<n->bd left (rk key) (R rk arr (base+j))=true->bd left (rk key) (R rk arr (base+i))=true:=λi j h1 D b=>znb (T _ _ (by omega) (by omega) (by omega)) b
 have up:∀ i j,i<=j->j<n->bd left (rk key) (R rk arr (base+i))=false->bd left (rk key) (R rk arr (base+j))=false:=λi j h1 D b=>by
  cases q:bd left (rk key) (R rk arr (base+j)) with
  | false=>rfl
  | true=>rw[F i j h1 D q]at b;cases b
 refine Jr (zjY C y v (e hint U) ?_);dsimp only
 have half:∀ (lo hi:Nat) (f:Nat->Option (Option Nat) × Nat × Nat->StateT SortSt Sem (ForInStep (Option (Option Nat) × Nat × Nat))),lo<=hi->hi<=n ->
   (∀ i,i<lo->bd left (rk key) (R rk arr (base+i))=true)->(∀ i,hi<=i->i<n->bd left (rk key) (R rk arr (base+i))=false) ->
   (∀ x l r (t:ForInStep (Option (Option Nat) × Nat × Nat)->SortSt->Prop),(r<=l->t (.done (none,l,r)) st)->(l<r->r<=n->bd left (rk key) (R rk arr (base+(l+(r-l) / 2)))=true->t (.yield (none,l+(r-l) / 2+1,r)) st) ->
    (l<r->r<=n->bd left (rk key) (R rk arr (base+(l+(r-l) / 2)))=false->t (.yield (none,l,l+(r-l) / 2)) st)->r<=n->wpS (model prog w) A E s (f x (none,l,r)) t st) ->
   wpS (model prog w) A E s (forIn [:n] (none,lo,hi) f) (λc st'=>st'=st/\∃ k,c=(none,k,k)/\Q (some k) st) st:=by
  intro lo hi f h1 D X W V;refine YB (I:=λx c st'=>st'=st/\∃ l r,c=(none,l,r)/\l<=r/\r<=n/\r-l<=n-x/\(∀ i,i<l->bd left (rk key) (R rk arr (base+i))=true)/\(∀ i,r<=i->i<n->bd left (rk key) (R rk arr (base+i))=false)) ?_ ?_ ⟨rfl,lo,hi,rfl,h1,D,by omega,X,W⟩
  ·rintro x c st' _ O ⟨rfl,l,r,rfl,S,d,m,H,G⟩
   refine V x l r _ (λz=>?_) (λz1 z2 b=>?_) (λz1 z2 b=>?_) d
   ·obtain rfl:l=r:=by omega
    exact⟨rfl,l,rfl,h l d H G⟩
   ·exact⟨rfl,_,r,rfl,by omega,d,by omega,λi B=>F i _ (by omega) (by omega) b,G⟩
   ·exact⟨rfl,l,_,rfl,by omega,by omega,by omega,H,λi i1 i2=>up _ i i1 i2 b⟩
  ·rintro c st' ⟨rfl,l,r,rfl,S,d,m,H,G⟩
   obtain rfl:l=r:=by omega
   exact⟨rfl,l,rfl,h l d H G⟩
 cases hb:bd left (rk key) (R rk arr (base+hint)) with
 | true =>
  rw[Jf rfl]
  refine Jr (Zf (YB (I:=λx c st'=>st'=st/\∃ l o,c=(none,l,o)/\x+1<=o/\l<o/\hint+l<n/\bd left (rk key) (R rk arr (base+(hint+l)))=true)
   (Q:=λc st'=>st'=st/\∃ l o,c=(none,l,o)/\l<o/\hint+l<n/\bd left (rk key) (R rk arr (base+(hint+l)))=true/\(o<n-hint->bd left (rk key) (R rk arr (base+(hint+o)))=false)) ?_ ?_ ⟨rfl,0,1,rfl,by omega,by omega,by omega,hb⟩) ?_)
  ·rintro x c st' _ O ⟨rfl,l,o,rfl,J,a,ln,b⟩
   dsimp only;by_cases z:o>=n-hint
   ·rw[Jf z]
    exact Jp ⟨rfl,l,o,rfl,a,ln,b,λq=>by omega⟩
   ·rw[Ja z]
    refine Jr (zjY C y v (e (hint+o) (by omega)) ?_)
    cases q:bd left (rk key) (R rk arr (base+(hint+o))) with
    | true=>exact Jp ⟨rfl,o,2*o+1,rfl,by omega,by omega,by omega,q⟩
    | false=>exact Jp ⟨rfl,l,o,rfl,a,ln,b,λ_=>q⟩
  ·rintro c st' ⟨rfl,l,o,rfl,J,a,ln,b⟩
   exact⟨rfl,l,o,rfl,a,ln,b,λq=>by omega⟩
  ·rintro c st' ⟨rfl,l,o,rfl,a,ln,b,nb⟩
   dsimp only;refine Jr (Zf (half _ _ _ (by omega) (by omega) (λi B=>F i _ (by omega) ln b) (λi i1 i2=>?_) ?_) ?_)
   ·have q:o<n-hint:=by omega
    exact up _ i (by omega) i2 (nb q)
   ·intro x g u t M L K d
    dsimp only;by_cases z:g>=u
    ·rw[Jf z];exact Jp (M z)
    ·rw[Ja z]
     refine Jr (zjY C y v (e _ (by omega)) ?_)
     cases q:bd left (rk key) (R rk arr (base+(g+(u-g) / 2))) with
     | true=>exact Jp (L (by omega) d q)
     | false=>exact Jp (K (by omega) d q)
   ·rintro c st' ⟨rfl,k,rfl,N⟩
    exact Jp N
 | false =>
  rw[Ja Jq]
  refine Jr (Zf (YB (I:=λx c st'=>st'=st/\∃ l o,c=(none,l,o)/\x+1<=o/\l<o/\l<=hint/\bd left (rk key) (R rk arr (base+(hint-l)))=false)
   (Q:=λc st'=>st'=st/\∃ l o,c=(none,l,o)/\l<o/\l<=hint/\bd left (rk key) (R rk arr (base+(hint-l)))=false/\(o<hint+1->bd left (rk key) (R rk arr (base+(hint-o)))=true)) ?_ ?_ ⟨rfl,0,1,rfl,by omega,by omega,by omega,hb⟩) ?_)
  ·rintro x c st' _ O ⟨rfl,l,o,rfl,J,a,ln,b⟩
   dsimp only;by_cases z:o>=hint+1
   ·rw[Jf z]
    exact Jp ⟨rfl,l,o,rfl,a,ln,b,λq=>by omega⟩
   ·rw[Ja z]
    refine Jr (zjY C y v (e (hint-o) (by omega)) ?_)
    cases q:bd left (rk key) (R rk arr (base+(hint-o))) with
    | true=>exact Jp ⟨rfl,l,o,rfl,a,ln,b,λ_=>q⟩
    | false=>exact Jp ⟨rfl,o,2*o+1,rfl,by omega,by omega,by omega,q⟩
  ·rintro c st' ⟨rfl,l,o,rfl,J,a,ln,b⟩
   exact⟨rfl,l,o,rfl,a,ln,b,λq=>by omega⟩
  ·rintro c st' ⟨rfl,l,o,rfl,a,ln,b,nb⟩
   dsimp only;refine Jr (Zf (half _ _ _ (by omega) (by omega) (λi B=>?_) (λi i1 i2=>up _ i i1 i2 b) ?_) ?_)
   ·have q:o<hint+1:=by omega
    exact F i _ (by omega) (by omega) (nb q)
   ·intro x g u t M L K d
    dsimp only;by_cases z:g>=u
    ·rw[Jf z];exact Jp (M z)
    ·rw[Ja z]
     refine Jr (zjY C y v (e _ (by omega)) ?_)
     cases q:bd left (rk key) (R rk arr (base+(g+(u-g) / 2))) with
     | true=>exact Jp (L (by omega) d q)
     | false=>exact Jp (K (by omega) d q)
   ·rintro c st' ⟨rfl,k,rfl,N⟩
    exact Jp N
end
def Srt (rk:Keyed->Int) (l:List Keyed):Prop:=l.Pairwise λx y=>rk x<=rk y
structure Lo (rk:Keyed->Int) (T out a b:List Keyed):Prop where
 so:Srt rk out
 sa:Srt rk a
 sb:Srt rk b
 oa:∀ x∈out,∀ y∈a,rk x<=rk y
 ob:∀ x∈out,∀ y∈b,rk x<=rk y
 pm:(out++(a++b)).Perm T
section
variable {rk:Keyed->Int}{T out a b c:List Keyed}
theorem Lo.swap (h:Lo rk T out a b):Lo rk T out b a:=⟨h.so,h.sb,h.sa,h.ob,h.oa,((ZD (l₁:=b) (l₂:=a)).append_left out).trans h.pm⟩
theorem Lo.take (h:Lo rk T out (c++a) b) (le:∀ x∈c,∀ y∈b,rk x<=rk y):Lo rk T (out++c) a b:=by
 obtain⟨s1,s2,f⟩:=YD.mp h.sa;refine⟨YD.mpr ⟨h.so,s1,λx e y d=>h.oa x e y (Ym _ d)⟩,s2,h.sb,λx e y d=>?_,λx e y d=>?_,?_⟩
 ·rcases Jx.mp e with q|q
  ·exact h.oa x q y (Jz _ d)
  ·exact f x q y d
 ·rcases Jx.mp e with q|q
  ·exact h.ob x q y d
  ·exact le x q y d
 ·have:=h.pm
  rw[JY]at this ⊢;exact this
theorem Lo.end (h:Lo rk T out a []):(out++a).Perm T/\Srt rk (out++a):=by
 have:=h.pm;rw[Yd]at this;exact⟨this,YD.mpr ⟨h.so,h.sa,h.oa⟩⟩
theorem Lo.lone (h:Lo rk T out a b) (le:∀ x∈b,∀ y∈a,rk x<=rk y):(out++b++a).Perm T/\Srt rk (out++b++a):=by
 refine⟨?_,YD.mpr ⟨YD.mpr ⟨h.so,h.sb,h.ob⟩,h.sa,λx d y c=>?_⟩⟩
 ·rw[JY]
  exact((ZD (l₁:=b) (l₂:=a)).append_left out).trans h.pm
 ·rcases Jx.mp d with q|q
  ·exact h.oa x q y c
  ·exact le x q y c
theorem zgb {arr:Array Keyed}{i:Nat}{p:Keyed}(e:arr[i]?=some p):arr.toList.drop i=p::arr.toList.drop (i+1):=by
 obtain⟨hi,e⟩:=JK.mp e;have a:i<arr.toList.length:=by rw[Ju];exact hi
 rw[YX a,Array.getElem_toList,e]
theorem zev (arr:Array Keyed) (i k:Nat):arr.toList.drop i=(arr.extract i (i+k)).toList++arr.toList.drop (i+k):=by
 rw[ZG,Zh,Nat.add_sub_cancel_left,<- List.drop_drop,ZC]
theorem zdW (arr:Array Keyed) (i:Nat):(arr.extract i).toList=arr.toList.drop i:=by
 rw[ZG,Zh];exact Yf (by rw[Zd,Ju];exact Jg _)
theorem zm7 {arr:Array Keyed}{i k:Nat}{x:Keyed}(h:x∈(arr.extract i (i+k)).toList):∃ j,j<k/\arr[i+j]?=some x:=by
 rw[ZG,Zh,Nat.add_sub_cancel_left]at h;obtain⟨j,a⟩:=YY.mp h
 have b:j<k:=by
  have:=(J9.mp a).1;rw[JE]at this;lia
 rw[ZN b,List.getElem?_drop]at a;exact⟨j,b,by rw[<- Yi];exact a⟩
theorem zbH {arr:Array Keyed}{i:Nat}{x:Keyed}(h:x∈arr.toList.drop i):∃ j,arr[i+j]?=some x:=by
 obtain⟨j,a⟩:=YY.mp h;rw[List.getElem?_drop]at a;exact⟨j,by rw[<- Yi];exact a⟩
theorem R_at {arr:Array Keyed}{i:Nat}{p:Keyed}(e:arr[i]?=some p):R rk arr i=rk p:=by unfold R;rw[e]
theorem zb8 {arr:Array Keyed}(h:Srt rk arr.toList) {base n:Nat}(hn:base+n<=arr.size):Up rk arr base n:=by
 intro i j hi b c;have h1:arr[i]?=some arr[i]:=getElem?_pos arr i (by lia);have a:arr[j]?=some arr[j]:=getElem?_pos arr j (by lia);rw[R_at h1,R_at a];by_cases z:i=j
 ·subst z;exact Wb _
 ·have:=List.pairwise_iff_getElem.mp h i j (by rw[Ju];lia) (by rw[Ju];lia) (by lia)
  simpa using this
theorem zbM {arr:Array Keyed}{i:Nat}{p:Keyed}(h:Srt rk arr.toList) (e:arr[i]?=some p):∀ y∈arr.toList.drop i,rk p<=rk y:=by
 have a:Srt rk (arr.toList.drop i):=List.Pairwise.drop h;rw[zgb e]at a ⊢;obtain⟨h1,_⟩:=Wy.mp a;intro y b;rcases Jh.mp b with rfl|q
 ·exact Wb _
 ·exact h1 y q
end
section
variable {rk:Keyed->Int}{T:List Keyed}{out a b:Array Keyed}{ia ib k:Nat}{p:Keyed}
abbrev At (rk:Keyed->Int) (T:List Keyed) (out a b:Array Keyed) (ia ib:Nat):Prop:=Lo rk T out.toList (a.toList.drop ia) (b.toList.drop ib)
theorem At.pushA (h:At rk T out a b ia ib) (e:a[ia]?=some p) (le:∀ y∈b.toList.drop ib,rk p<=rk y):At rk T (out.push p) a b (ia+1) ib:=by
 have h':=h;unfold At at h' ⊢;rw[zgb e]at h';rw[Z7];exact Lo.take (c:=[p]) h' λx f y d=>by rw[Jd.mp f];exact le y d
theorem At.pushB (h:At rk T out a b ia ib) (e:b[ib]?=some p) (le:∀ y∈a.toList.drop ia,rk p<=rk y):At rk T (out.push p) a b ia (ib+1):=(At.pushA (a:=b) (b:=a) h.swap e le).swap
theorem At.cutA (h:At rk T out a b ia ib) (le:∀ j x,j<k->a[ia+j]?=some x->∀ y∈b.toList.drop ib,rk x<=rk y):At rk T (out++a.extract ia (ia+k)) a b (ia+k) ib:=by
 have h':=h;unfold At at h' ⊢;rw[zev a ia k]at h';rw[Ye]
 exact Lo.take h' λx f y d=>by
  obtain⟨j,c,e⟩:=zm7 f;exact le j x c e y d
theorem At.cutB (h:At rk T out a b ia ib) (le:∀ j x,j<k->b[ib+j]?=some x->∀ y∈a.toList.drop ia,rk x<=rk y):At rk T (out++b.extract ib (ib+k)) a b ia (ib+k):=(At.cutA (a:=b) (b:=a) h.swap le).swap
theorem At.endB (h:At rk T out a b ia ib) (z:b.size<=ib):(out++a.extract ia++b.extract ib).toList.Perm T/\Srt rk (out++a.extract ia++b.extract ib).toList:=by
 have h':=h;unfold At at h';have e:b.toList.drop ib=[]:=List.drop_eq_nil_iff.mpr (by rw[Ju];exact z);rw[e]at h';rw[Ye,Ye,zdW,zdW,e,Yd];exact h'.end
theorem At.endA (h:At rk T out a b ia ib) (z:a.size<=ia):(out++a.extract ia++b.extract ib).toList.Perm T/\Srt rk (out++a.extract ia++b.extract ib).toList:=by
 have h':=h.swap;have e:a.toList.drop ia=[]:=List.drop_eq_nil_iff.mpr (by rw[Ju];exact z);rw[e]at h';rw[Ye,Ye,zdW,zdW,e,Yd];exact h'.end
theorem At.lastA (h:At rk T out a b ia ib) (le:∀ x∈b.toList.drop ib,∀ y∈a.toList.drop ia,rk x<=rk y):(out++b.extract ib++a.extract ia).toList.Perm T/\Srt rk (out++b.extract ib++a.extract ia).toList:=by
 rw[Ye,Ye,zdW,zdW];exact Lo.lone h le
end
def zkU:Array Keyed->Array Keyed->StateT SortSt Sem (Array Keyed):=sortPriv% PySem.Builtin.mergeLo
def zl2:Nat->StateT SortSt Sem Unit:=sortPriv% PySem.Builtin.setMinGallop
structure Sm (st st':SortSt):Prop where
 kind:kindOf st'=kindOf st
 arr:arrOf st'=arrOf st
 pend:pendingOf st'=pendingOf st
 fail:failedOf st'=failedOf st
theorem Sm.refl (st:SortSt):Sm st st:=⟨rfl,rfl,rfl,rfl⟩
theorem Sm.trans {a b c:SortSt}(h:Sm a b) (g:Sm b c):Sm a c:=⟨g.kind.trans h.kind,g.arr.trans h.arr,g.pend.trans h.pend,g.fail.trans h.fail⟩
section
variable {prog:Program}{w:World}{A:Around}{E:Value->Shared->Prop}{s:Shared}{κ:SortKind}{P:Keyed->Prop}{rk:Keyed->Int}
theorem zdP {st:SortSt}{g:Nat}{Q:Unit->SortSt->Prop}(h:∀ st',Sm st st'->Q () st'):wpS (model prog w) A E s (zl2 g) Q st :=
 Wx (h _ ⟨rfl,rfl,rfl,rfl⟩)
theorem zow (C:Cmp prog w A s κ P rk) {st:SortSt}{a b:Array Keyed}{Q:Array Keyed->SortSt->Prop}(hk:kindOf st=κ) (pa:∀ x∈a.toList,P x) (pb:∀ x∈b.toList,P x) (sa:Srt rk a.toList) (sb:Srt rk b.toList) (a1:1<=a.size) (b1:1<=b.size)
  (first:∀ x,b[0]?=some x->∀ y∈a.toList,rk x<=rk y) (last:∀ x,a[a.size-1]?=some x->∀ y∈b.toList,rk y<=rk x)
  (h:∀ r st',Sm st st'->r.toList.Perm (a.toList++b.toList)->Srt rk r.toList->Q r st'):wpS (model prog w) A E s (zkU a b) Q st:=by
 have U:∀ i,i<a.size->∃ x,a[i]?=some x/\P x:=λi hi=>⟨_,getElem?_pos a i hi,pa _ (by simp)⟩;have T:∀ i,i<b.size->∃ x,b[i]?=some x/\P x:=λi hi=>⟨_,getElem?_pos b i hi,pb _ (by simp)⟩;obtain⟨b0,e0,_⟩:=T 0 b1
 have lone:∀ {out:Array Keyed}{ia ib:Nat},At rk (a.toList++b.toList) out a b ia ib->ia+1=a.size->(out++b.extract ib++a.extract ia).toList.Perm (a.toList++b.toList)/\Srt rk (out++b.extract ib++a.extract ia).toList:=λ{out ia ib} L z=>L.lastA λx hx y hy=>by
  obtain⟨j,ej⟩:=zbH hy;have:=(JK.mp ej).1;exact last y (by rw[show a.size-1=ia+j by lia];exact ej) x (List.mem_of_mem_drop hx)
 have L0:At rk (a.toList++b.toList) #[b0] a b 0 1:=by
  have e:=zgb e0;rw[Ww]at e;have hb:=sb;unfold Srt at hb;rw[e]at hb;obtain⟨h1,h2⟩:=Wy.mp hb;refine⟨List.pairwise_singleton _ _,by rw[Ww];exact sa,h2,λx hx y hy=>?_,λx hx y hy=>?_,?_⟩
  ·rw[Jd.mp hx];exact first b0 e0 y (List.mem_of_mem_drop hy)
  ·rw[Jd.mp hx];exact h1 y hy
  ·rw[Ww]
   conv=>rhs;rw[e]
   show (b0::(a.toList++b.toList.drop 1)).Perm (a.toList++b0::b.toList.drop 1);exact List.perm_middle.symm
 have size:∀ {out:Array Keyed}{ia ib:Nat},At rk (a.toList++b.toList) out a b ia ib->out.size<=a.size+b.size:=λ{out ia ib} L=>by
  have:=L.pm.length_eq;simp only[Jn,Ju]at this;lia
 refine Jr (zcA ?_);refine Jr (zan e0 ?_);dsimp only;by_cases z1:1=b.size
 ·rw[Jf (by simpa using z1)]
  obtain⟨l,f⟩:=L0.endB (by lia);exact Jp (h _ _ (Sm.refl _) l f)
 rw[Ja (by simpa using z1)];by_cases z2:0+1=a.size
 ·rw[Jf (by simpa using z2)]
  obtain⟨l,f⟩:=lone L0 z2;exact Jp (h _ _ (Sm.refl _) l f)
 rw[Ja (by simpa using z2)];refine Jr (Wp ?_)
 refine Jr (Zf (YB (I:=λi c M=>Sm st M/\∃ out ia ib g,c=(none,out,ia,ib,g)/\At rk (a.toList++b.toList) out a b ia ib/\ia+1<a.size/\ib<b.size/\i+1<=out.size)
  (Q:=λc M=>Sm st M/\∃ r x,c=(some r,x)/\r.toList.Perm (a.toList++b.toList)/\Srt rk r.toList) ?step ?fin ⟨Sm.refl _,_,_,_,_,rfl,L0,by lia,by lia,by simp⟩) ?post)
 case post =>
  rintro c M ⟨S1,r,x,rfl,l,f⟩;exact Jp (h _ _ S1 l f)
 case fin =>
  rintro c M ⟨S1,out,ia,ib,g,rfl,L,_,_,sz⟩;have:=size L;lia
 case step =>
  rintro i c M _ hi ⟨S1,out,ia,ib,g,rfl,L,la,V,sz⟩;dsimp only
  refine Jr (Zf (YB (I:=λj c st2=>st2=M/\∃ out ia ib ca W,c=(none,out,ia,ib,ca,W)/\At rk (a.toList++b.toList) out a b ia ib/\ia+1<a.size/\ib<b.size/\i+1+j<=out.size)
   (Q:=λc st2=>st2=M/\((∃ r x,c=(some r,x)/\r.toList.Perm (a.toList++b.toList)/\Srt rk r.toList)\/∃ out ia ib ca W,c=(none,out,ia,ib,ca,W)/\At rk (a.toList++b.toList) out a b ia ib/\ia+1<a.size/\ib<b.size/\i+2<=out.size)) ?_ ?_ ⟨rfl,_,_,_,_,_,rfl,L,la,V,by lia⟩) ?_)
  ·rintro j c st2 _ hj ⟨rfl,out,ia,ib,ca,W,rfl,L,la,V,sz⟩
   dsimp only;obtain⟨x,ex,px⟩:=U ia (by lia);obtain⟨y,J,py⟩:=T ib V;refine Jr (zan J (Jr (zan ex (Jr (zi7 C (S1.kind.trans hk) py px ?_)))));by_cases z:rk y<rk x
   ·rw[JG z]
    dsimp only;rw[Jf rfl];have L':=L.pushB J λu N=>Zx (Int.le_of_lt z) (zbM sa ex u N);refine Jr (zan J ?_);by_cases H:ib+1=b.size
    ·rw[Jf (by simpa using H)]
     obtain⟨l,f⟩:=L'.endB (by lia);exact Jp ⟨rfl,.inl ⟨_,_,rfl,l,f⟩⟩
    ·rw[Ja (by simpa using H)]
     by_cases zg:W+1>=g
     ·rw[Jf zg]
      exact Jp ⟨rfl,.inr ⟨_,_,_,_,_,rfl,L',la,by lia,by rw[Jy];lia⟩⟩
     ·rw[Ja zg]
      exact Jp ⟨rfl,_,_,_,_,_,rfl,L',la,by lia,by rw[Jy];lia⟩
   ·rw[Jv z]
    dsimp only;rw[Ja Jq];have L':=L.pushA ex λu N=>Zx (by lia) (zbM sb J u N);refine Jr (zan ex ?_);by_cases H:ia+1+1=a.size
    ·rw[Jf (by simpa using H)]
     obtain⟨l,f⟩:=lone L' H;exact Jp ⟨rfl,.inl ⟨_,_,rfl,l,f⟩⟩
    ·rw[Ja (by simpa using H)]
     by_cases zg:ca+1>=g
     ·rw[Jf zg]
      exact Jp ⟨rfl,.inr ⟨_,_,_,_,_,rfl,L',by lia,V,by rw[Jy];lia⟩⟩
     ·rw[Ja zg]
      exact Jp ⟨rfl,_,_,_,_,_,rfl,L',by lia,V,by rw[Jy];lia⟩
  ·rintro c st2 ⟨rfl,out,ia,ib,ca,W,rfl,L,la,V,sz⟩
   have:=size L;lia
  ·rintro c st2 ⟨rfl,⟨r,x,rfl,l,f⟩|⟨out,ia,ib,ca,W,rfl,L,la,V,sz⟩⟩
   ·exact Jp ⟨S1,r,_,rfl,l,f⟩
   dsimp only;refine Jr (zcA ?_)
   refine Jr (Zf (YB (I:=λj c X=>Sm st X/\∃ out ia ib g ca W,c=(none,out,ia,ib,g,ca,W)/\At rk (a.toList++b.toList) out a b ia ib/\ia+1<a.size/\ib<b.size/\i+2<=out.size)
    (Q:=λc X=>Sm st X/\((∃ r x,c=(some r,x)/\r.toList.Perm (a.toList++b.toList)/\Srt rk r.toList)\/∃ out ia ib g ca W,c=(none,out,ia,ib,g,ca,W)/\At rk (a.toList++b.toList) out a b ia ib/\ia+1<a.size/\ib<b.size/\i+2<=out.size)) ?_ ?_ ⟨S1,_,_,_,_,_,_,rfl,L,la,V,sz⟩) ?_)
   ·rintro j c X _ hj ⟨S3,out,ia,ib,g,ca,W,rfl,L,la,V,sz⟩
    dsimp only;obtain⟨y,J,py⟩:=T ib V;by_cases zg:g > 1
    ·rw[Jf zg]
     refine Jr (zdP λad m=>?_);have m:=S3.trans m;refine Jr (zan J (Jr (zbq C (m.kind.trans hk) py (λt ht=>U (ia+t) (by lia)) (zb8 sa (by lia)) (by lia) λk ae g1 g2=>?_)));dsimp only
     have O:=L.cutA (k:=k) λt u tk eu v Z=>by
      have:=g1 t tk;rw[R_at eu]at this;unfold bd at this;simp only[Yb,Zb,ZZ,Y2]at this;have:=zbM sb J v Z;lia
     have hle:∀ u∈a.toList.drop (ia+k),rk y<=rk u:=λu N=>by
      obtain⟨t,K⟩:=zbH N;have tl:=(JK.mp K).1;have:=g2 (k+t) (by lia) (by lia);rw[<- ZA,R_at K]at this;unfold bd at this;simp only[Yb,Zb,Wz,Ya]at this;lia
     have D:i+2<=(out++a.extract ia (ia+k)).size:=by rw[Jw];lia
     by_cases zk:k > 0
     ·rw[Jf zk]
      by_cases za:ia+k+1=a.size
      ·rw[Jf (by simpa using za)]
       obtain⟨l,f⟩:=lone O za;exact Jp ⟨m,.inl ⟨_,_,rfl,l,f⟩⟩
      rw[Ja (by simpa using za)];by_cases zc:ia+k=a.size
      ·rw[Jf (by simpa using zc)]
       obtain⟨l,f⟩:=O.endA (by lia);exact Jp ⟨m,.inl ⟨_,_,rfl,l,f⟩⟩
      rw[Ja (by simpa using zc)];have G:ia+k+1<a.size:=by lia
      generalize ia+k=S at O hle G D ⊢;generalize out++a.extract ia S=out1 at O D ⊢;refine Jr (zan J ?_);have L2:=O.pushB J hle;by_cases H:ib+1=b.size
      ·rw[Jf (by simpa using H)]
       obtain⟨l,f⟩:=L2.endB (by lia);exact Jp ⟨m,.inl ⟨_,_,rfl,l,f⟩⟩
      rw[Ja (by simpa using H)];obtain⟨x1,d,R⟩:=U _ (Nat.lt_of_succ_lt G);refine Jr (zan d (Jr (zbq C (m.kind.trans hk) R (λt ht=>T (ib+1+t) (by lia)) (zb8 sb (by lia)) (by lia) λp ab c1 c2=>?_)));dsimp only
      have L3:=L2.cutB (k:=p) λt u tk eu v Z=>by
       have:=c1 t tk;rw[R_at eu]at this;unfold bd at this;simp only[Yv,Ya]at this;have:=zbM sa d v Z;lia
      have n:∀ u∈b.toList.drop (ib+1+p),rk x1<=rk u:=λu N=>by
       obtain⟨t,K⟩:=zbH N;have tl:=(JK.mp K).1;have:=c2 (p+t) (by lia) (by lia);rw[<- ZA,R_at K]at this;unfold bd at this;simp only[Yv,Y2]at this;lia
      have aa:=D;by_cases B:p > 0
      ·rw[Jf B]
       by_cases Y:ib+1+p=b.size
       ·rw[Jf (by simpa using Y)]
        obtain⟨l,f⟩:=L3.endB (by lia);exact Jp ⟨m,.inl ⟨_,_,rfl,l,f⟩⟩
       rw[Ja (by simpa using Y)];have F:ib+1+p<b.size:=by lia
       refine Jr (zan d ?_);have q:=L3.pushA d n;by_cases o:S+1+1=a.size
       ·rw[Jf (by simpa using o)]
        obtain⟨l,f⟩:=lone q o;exact Jp ⟨m,.inl ⟨_,_,rfl,l,f⟩⟩
       rw[Ja (by simpa using o)];split
       ·exact Jp ⟨m,.inr ⟨_,_,_,_,_,_,rfl,q,by lia,F,by simp only[Jy,Jw];lia⟩⟩
       ·exact Jp ⟨m,_,_,_,_,_,_,rfl,q,by lia,F,by simp only[Jy,Jw];lia⟩
      ·rw[Ja B]
       obtain rfl:p=0:=by lia
       rw[YL]at n;refine Jr (zan d ?_);have q:=L2.pushA d n;by_cases o:S+1+1=a.size
       ·rw[Jf (by simpa using o)]
        obtain⟨l,f⟩:=lone q o;exact Jp ⟨m,.inl ⟨_,_,rfl,l,f⟩⟩
       rw[Ja (by simpa using o)];split
       ·exact Jp ⟨m,.inr ⟨_,_,_,_,_,_,rfl,q,by lia,by lia,by simp only[Jy,Jw];lia⟩⟩
       ·exact Jp ⟨m,_,_,_,_,_,_,rfl,q,by lia,by lia,by simp only[Jy,Jw];lia⟩
     ·rw[Ja zk]
      obtain rfl:k=0:=by lia
      have O:=L;have G:=la;have D:=sz;rw[YL]at hle;refine Jr (zan J ?_);have L2:=O.pushB J hle;by_cases H:ib+1=b.size
      ·rw[Jf (by simpa using H)]
       obtain⟨l,f⟩:=L2.endB (by lia);exact Jp ⟨m,.inl ⟨_,_,rfl,l,f⟩⟩
      rw[Ja (by simpa using H)];obtain⟨x1,d,R⟩:=U _ (Nat.lt_of_succ_lt G);refine Jr (zan d (Jr (zbq C (m.kind.trans hk) R (λt ht=>T (ib+1+t) (by lia)) (zb8 sb (by lia)) (by lia) λp ab c1 c2=>?_)));dsimp only
      have L3:=L2.cutB (k:=p) λt u tk eu v Z=>by
       have:=c1 t tk;rw[R_at eu]at this;unfold bd at this;simp only[Yv,Ya]at this;have:=zbM sa d v Z;lia
      have n:∀ u∈b.toList.drop (ib+1+p),rk x1<=rk u:=λu N=>by
       obtain⟨t,K⟩:=zbH N;have tl:=(JK.mp K).1;have:=c2 (p+t) (by lia) (by lia);rw[<- ZA,R_at K]at this;unfold bd at this;simp only[Yv,Y2]at this;lia
      have aa:=D;by_cases B:p > 0
      ·rw[Jf B]
       by_cases Y:ib+1+p=b.size
       ·rw[Jf (by simpa using Y)]
        obtain⟨l,f⟩:=L3.endB (by lia);exact Jp ⟨m,.inl ⟨_,_,rfl,l,f⟩⟩
       rw[Ja (by simpa using Y)];have F:ib+1+p<b.size:=by lia
       refine Jr (zan d ?_);have q:=L3.pushA d n;by_cases o:ia+1+1=a.size
       ·rw[Jf (by simpa using o)]
        obtain⟨l,f⟩:=lone q o;exact Jp ⟨m,.inl ⟨_,_,rfl,l,f⟩⟩
       rw[Ja (by simpa using o)];split
       ·exact Jp ⟨m,.inr ⟨_,_,_,_,_,_,rfl,q,by lia,F,by simp only[Jy,Jw];lia⟩⟩
       ·exact Jp ⟨m,_,_,_,_,_,_,rfl,q,by lia,F,by simp only[Jy,Jw];lia⟩
      ·rw[Ja B]
       obtain rfl:p=0:=by lia
       rw[YL]at n;refine Jr (zan d ?_);have q:=L2.pushA d n;by_cases o:ia+1+1=a.size
       ·rw[Jf (by simpa using o)]
        obtain⟨l,f⟩:=lone q o;exact Jp ⟨m,.inl ⟨_,_,rfl,l,f⟩⟩
       rw[Ja (by simpa using o)];split
       ·exact Jp ⟨m,.inr ⟨_,_,_,_,_,_,rfl,q,by lia,by lia,by simp only[Jy,Jw];lia⟩⟩
       ·exact Jp ⟨m,_,_,_,_,_,_,rfl,q,by lia,by lia,by simp only[Jy,Jw];lia⟩
    ·rw[Ja zg]
     refine Jr (zdP λad m=>?_);have m:=S3.trans m;refine Jr (zan J (Jr (zbq C (m.kind.trans hk) py (λt ht=>U (ia+t) (by lia)) (zb8 sa (by lia)) (by lia) λk ae g1 g2=>?_)));dsimp only
     have O:=L.cutA (k:=k) λt u tk eu v Z=>by
      have:=g1 t tk;rw[R_at eu]at this;unfold bd at this;simp only[Yb,Zb,ZZ,Y2]at this;have:=zbM sb J v Z;lia
     have hle:∀ u∈a.toList.drop (ia+k),rk y<=rk u:=λu N=>by
      obtain⟨t,K⟩:=zbH N;have tl:=(JK.mp K).1;have:=g2 (k+t) (by lia) (by lia);rw[<- ZA,R_at K]at this;unfold bd at this;simp only[Yb,Zb,Wz,Ya]at this;lia
     have D:i+2<=(out++a.extract ia (ia+k)).size:=by rw[Jw];lia
     by_cases zk:k > 0
     ·rw[Jf zk]
      by_cases za:ia+k+1=a.size
      ·rw[Jf (by simpa using za)]
       obtain⟨l,f⟩:=lone O za;exact Jp ⟨m,.inl ⟨_,_,rfl,l,f⟩⟩
      rw[Ja (by simpa using za)];by_cases zc:ia+k=a.size
      ·rw[Jf (by simpa using zc)]
       obtain⟨l,f⟩:=O.endA (by lia);exact Jp ⟨m,.inl ⟨_,_,rfl,l,f⟩⟩
      rw[Ja (by simpa using zc)];have G:ia+k+1<a.size:=by lia
      generalize ia+k=S at O hle G D ⊢;generalize out++a.extract ia S=out1 at O D ⊢;refine Jr (zan J ?_);have L2:=O.pushB J hle;by_cases H:ib+1=b.size
      ·rw[Jf (by simpa using H)]
       obtain⟨l,f⟩:=L2.endB (by lia);exact Jp ⟨m,.inl ⟨_,_,rfl,l,f⟩⟩
      rw[Ja (by simpa using H)];obtain⟨x1,d,R⟩:=U _ (Nat.lt_of_succ_lt G);refine Jr (zan d (Jr (zbq C (m.kind.trans hk) R (λt ht=>T (ib+1+t) (by lia)) (zb8 sb (by lia)) (by lia) λp ab c1 c2=>?_)));dsimp only
      have L3:=L2.cutB (k:=p) λt u tk eu v Z=>by
       have:=c1 t tk;rw[R_at eu]at this;unfold bd at this;simp only[Yv,Ya]at this;have:=zbM sa d v Z;lia
      have n:∀ u∈b.toList.drop (ib+1+p),rk x1<=rk u:=λu N=>by
       obtain⟨t,K⟩:=zbH N;have tl:=(JK.mp K).1;have:=c2 (p+t) (by lia) (by lia);rw[<- ZA,R_at K]at this;unfold bd at this;simp only[Yv,Y2]at this;lia
      have aa:=D;by_cases B:p > 0
      ·rw[Jf B]
       by_cases Y:ib+1+p=b.size
       ·rw[Jf (by simpa using Y)]
        obtain⟨l,f⟩:=L3.endB (by lia);exact Jp ⟨m,.inl ⟨_,_,rfl,l,f⟩⟩
       rw[Ja (by simpa using Y)];have F:ib+1+p<b.size:=by lia
       refine Jr (zan d ?_);have q:=L3.pushA d n;by_cases o:S+1+1=a.size
       ·rw[Jf (by simpa using o)]
        obtain⟨l,f⟩:=lone q o;exact Jp ⟨m,.inl ⟨_,_,rfl,l,f⟩⟩
       rw[Ja (by simpa using o)];split
       ·exact Jp ⟨m,.inr ⟨_,_,_,_,_,_,rfl,q,by lia,F,by simp only[Jy,Jw];lia⟩⟩
       ·exact Jp ⟨m,_,_,_,_,_,_,rfl,q,by lia,F,by simp only[Jy,Jw];lia⟩
      ·rw[Ja B]
       obtain rfl:p=0:=by lia
       rw[YL]at n;refine Jr (zan d ?_);have q:=L2.pushA d n;by_cases o:S+1+1=a.size
       ·rw[Jf (by simpa using o)]
        obtain⟨l,f⟩:=lone q o;exact Jp ⟨m,.inl ⟨_,_,rfl,l,f⟩⟩
       rw[Ja (by simpa using o)];split
       ·exact Jp ⟨m,.inr ⟨_,_,_,_,_,_,rfl,q,by lia,by lia,by simp only[Jy,Jw];lia⟩⟩
       ·exact Jp ⟨m,_,_,_,_,_,_,rfl,q,by lia,by lia,by simp only[Jy,Jw];lia⟩
     ·rw[Ja zk]
      obtain rfl:k=0:=by lia
      have O:=L;have G:=la;have D:=sz;rw[YL]at hle;refine Jr (zan J ?_);have L2:=O.pushB J hle;by_cases H:ib+1=b.size
      ·rw[Jf (by simpa using H)]
       obtain⟨l,f⟩:=L2.endB (by lia);exact Jp ⟨m,.inl ⟨_,_,rfl,l,f⟩⟩
      rw[Ja (by simpa using H)];obtain⟨x1,d,R⟩:=U _ (Nat.lt_of_succ_lt G);refine Jr (zan d (Jr (zbq C (m.kind.trans hk) R (λt ht=>T (ib+1+t) (by lia)) (zb8 sb (by lia)) (by lia) λp ab c1 c2=>?_)));dsimp only
      have L3:=L2.cutB (k:=p) λt u tk eu v Z=>by
       have:=c1 t tk;rw[R_at eu]at this;unfold bd at this;simp only[Yv,Ya]at this;have:=zbM sa d v Z;lia
      have n:∀ u∈b.toList.drop (ib+1+p),rk x1<=rk u:=λu N=>by
       obtain⟨t,K⟩:=zbH N;have tl:=(JK.mp K).1;have:=c2 (p+t) (by lia) (by lia);rw[<- ZA,R_at K]at this;unfold bd at this;simp only[Yv,Y2]at this;lia
      have aa:=D;by_cases B:p > 0
      ·rw[Jf B]
       by_cases Y:ib+1+p=b.size
       ·rw[Jf (by simpa using Y)]
        obtain⟨l,f⟩:=L3.endB (by lia);exact Jp ⟨m,.inl ⟨_,_,rfl,l,f⟩⟩
       rw[Ja (by simpa using Y)];have F:ib+1+p<b.size:=by lia
       refine Jr (zan d ?_);have q:=L3.pushA d n;by_cases o:ia+1+1=a.size
       ·rw[Jf (by simpa using o)]
        obtain⟨l,f⟩:=lone q o;exact Jp ⟨m,.inl ⟨_,_,rfl,l,f⟩⟩
       rw[Ja (by simpa using o)];split
       ·exact Jp ⟨m,.inr ⟨_,_,_,_,_,_,rfl,q,by lia,F,by simp only[Jy,Jw];lia⟩⟩
       ·exact Jp ⟨m,_,_,_,_,_,_,rfl,q,by lia,F,by simp only[Jy,Jw];lia⟩
      ·rw[Ja B]
       obtain rfl:p=0:=by lia
       rw[YL]at n;refine Jr (zan d ?_);have q:=L2.pushA d n;by_cases o:ia+1+1=a.size
       ·rw[Jf (by simpa using o)]
        obtain⟨l,f⟩:=lone q o;exact Jp ⟨m,.inl ⟨_,_,rfl,l,f⟩⟩
       rw[Ja (by simpa using o)];split
       ·exact Jp ⟨m,.inr ⟨_,_,_,_,_,_,rfl,q,by lia,by lia,by simp only[Jy,Jw];lia⟩⟩
       ·exact Jp ⟨m,_,_,_,_,_,_,rfl,q,by lia,by lia,by simp only[Jy,Jw];lia⟩
   ·rintro c X ⟨S3,out,ia,ib,g,ca,W,rfl,L,la,V,sz⟩
    exact⟨S3,.inr ⟨_,_,_,_,_,_,rfl,L,la,V,sz⟩⟩
   ·rintro c X ⟨S3,⟨r,x,rfl,l,f⟩|⟨out,ia,ib,g,ca,W,rfl,L,la,V,sz⟩⟩
    ·exact Jp ⟨S3,r,_,rfl,l,f⟩
    dsimp only;refine Jr (zdP λad m=>?_);exact Jp ⟨S3.trans m,_,_,_,_,rfl,L,la,V,by lia⟩
end
def zkV:Array Keyed->Array Keyed->StateT SortSt Sem (Array Keyed):=sortPriv% PySem.Builtin.mergeHi
structure Hi (rk:Keyed->Int) (T a b out:List Keyed):Prop where
 sa:Srt rk a
 sb:Srt rk b
 so:Srt rk out
 ao:∀ x∈a,∀ y∈out,rk x<=rk y
 bo:∀ x∈b,∀ y∈out,rk x<=rk y
 pm:(a++b++out).Perm T
section
variable {rk:Keyed->Int}{T out a b c:List Keyed}
theorem Hi.swap (h:Hi rk T a b out):Hi rk T b a out:=⟨h.sb,h.sa,h.so,h.bo,h.ao,((ZD (l₁:=b) (l₂:=a)).append_right out).trans h.pm⟩
theorem Hi.take (h:Hi rk T (a++c) b out) (le:∀ x∈b,∀ y∈c,rk x<=rk y):Hi rk T a b (c++out):=by
 obtain⟨s1,s2,f⟩:=YD.mp h.sa;refine⟨s1,h.sb,YD.mpr ⟨s2,h.so,λx d y e=>h.ao x (Jz _ d) y e⟩,λx d y e=>?_,λx d y e=>?_,?_⟩
 ·rcases Jx.mp e with q|q
  ·exact f x d y q
  ·exact h.ao x (Ym _ d) y q
 ·rcases Jx.mp e with q|q
  ·exact le x d y q
  ·exact h.bo x d y q
 ·refine List.Perm.trans ?_ h.pm
  rw[<- JY];refine List.Perm.append_right out ?_;rw[JY,JY];exact List.Perm.append_left a ZD
theorem Hi.end (h:Hi rk T [] b out):(b++out).Perm T/\Srt rk (b++out):=⟨h.pm,YD.mpr ⟨h.sb,h.so,h.bo⟩⟩
theorem Hi.lone (h:Hi rk T a b out) (le:∀ x∈b,∀ y∈a,rk x<=rk y):(b++a++out).Perm T/\Srt rk (b++a++out):=by
 refine⟨((ZD (l₁:=b) (l₂:=a)).append_right out).trans h.pm,YD.mpr ⟨YD.mpr ⟨h.sb,h.sa,le⟩,h.so,λx d y c=>?_⟩⟩;rcases Jx.mp d with q|q
 ·exact h.bo x q y c
 ·exact h.ao x q y c
theorem zlR {arr:Array Keyed}{n:Nat}{p:Keyed}(h1:1<=n) (e:arr[n-1]?=some p):arr.toList.take n=arr.toList.take (n-1)++[p]:=by
 obtain⟨hi,e⟩:=JK.mp e;have a:n-1<arr.toList.length:=by rw[Ju];exact hi
 have:=Y7 a;rw[Nat.sub_add_cancel h1,Array.getElem_toList,e]at this;exact this
theorem zj9 (arr:Array Keyed) {i n:Nat}(h:i<=n):arr.toList.take n=arr.toList.take i++(arr.extract i n).toList:=by
 rw[ZG,Zh];have:=List.take_add (l:=arr.toList) (i:=i) (j:=n-i);rw[show i+(n-i)=n by lia]at this;exact this
theorem zdq (arr:Array Keyed) (n:Nat):(arr.extract 0 n).toList=arr.toList.take n:=by
 rw[ZG,Zh,Ww,Nat.sub_zero]
theorem zdr {arr:Array Keyed}{i n:Nat}{x:Keyed}(h:x∈(arr.extract i n).toList):∃ j,i<=j/\j<n/\arr[j]?=some x:=by
 rw[ZG,Zh]at h;obtain⟨j,a⟩:=YY.mp h
 have b:j<n-i:=by
  have:=(J9.mp a).1;rw[JE]at this;lia
 rw[ZN b,List.getElem?_drop]at a;exact⟨i+j,by lia,by lia,by rw[<- Yi];exact a⟩
theorem zbl {arr:Array Keyed}{n:Nat}{x:Keyed}(h:x∈arr.toList.take n):∃ j,j<n/\arr[j]?=some x:=by
 obtain⟨j,a⟩:=YY.mp h
 have b:j<n:=by
  have:=(J9.mp a).1;rw[JE]at this;lia
 rw[ZN b]at a;exact⟨j,b,by rw[<- Yi];exact a⟩
theorem zbt {arr:Array Keyed}{n:Nat}{p:Keyed}(h:Srt rk arr.toList) (h1:1<=n) (e:arr[n-1]?=some p):∀ y∈arr.toList.take n,rk y<=rk p:=by
 intro y a;obtain⟨j,c,b⟩:=zbl a;have hn:=(JK.mp e).1;have:=zb8 h (base:=0) (n:=n) (by lia) j (n-1) (JS _) (by lia) (by lia);rw[R_at b,R_at e]at this;exact this
end
section
variable {rk:Keyed->Int}{T:List Keyed}{out a b:Array Keyed}{na nb i:Nat}{p:Keyed}
abbrev Bt (rk:Keyed->Int) (T:List Keyed) (a b out:Array Keyed) (na nb:Nat):Prop:=Hi rk T (a.toList.take na) (b.toList.take nb) out.toList.reverse
theorem Bt.pushA (h:Bt rk T a b out na nb) (h1:1<=na) (e:a[na-1]?=some p) (le:∀ x∈b.toList.take nb,rk x<=rk p):Bt rk T a b (out.push p) (na-1) nb:=by
 have h':=h;unfold Bt at h' ⊢;rw[zlR h1 e]at h';rw[Z7,List.reverse_append];exact Hi.take (c:=[p]) h' λx f y d=>by rw[Jd.mp d];exact le x f
theorem Bt.pushB (h:Bt rk T a b out na nb) (h1:1<=nb) (e:b[nb-1]?=some p) (le:∀ x∈a.toList.take na,rk x<=rk p):Bt rk T a b (out.push p) na (nb-1):=(Bt.pushA (a:=b) (b:=a) h.swap h1 e le).swap
theorem Bt.cutA (h:Bt rk T a b out na nb) (hi:i<=na) (le:∀ j x,i<=j->j<na->a[j]?=some x->∀ y∈b.toList.take nb,rk y<=rk x):Bt rk T a b (out++(a.extract i na).reverse) i nb:=by
 have h':=h;unfold Bt at h' ⊢;rw[zj9 a hi]at h';rw[Ye,List.reverse_append,Array.toList_reverse,List.reverse_reverse]
 exact Hi.take h' λy f x g=>by
  obtain⟨j,d,c,e⟩:=zdr g;exact le j x d c e y f
theorem Bt.cutB (h:Bt rk T a b out na nb) (hi:i<=nb) (le:∀ j x,i<=j->j<nb->b[j]?=some x->∀ y∈a.toList.take na,rk y<=rk x):Bt rk T a b (out++(b.extract i nb).reverse) na i:=(Bt.cutA (a:=b) (b:=a) h.swap hi le).swap
theorem Bt.endA (h:Bt rk T a b out 0 nb):(a.extract 0 0++b.extract 0 nb++out.reverse).toList.Perm T/\Srt rk (a.extract 0 0++b.extract 0 nb++out.reverse).toList:=by
 rw[Ye,Ye,zdq,zdq,WA,Zy,Array.toList_reverse];exact Hi.end h
theorem Bt.endB (h:Bt rk T a b out na 0):(a.extract 0 na++b.extract 0 0++out.reverse).toList.Perm T/\Srt rk (a.extract 0 na++b.extract 0 0++out.reverse).toList:=by
 rw[Ye,Ye,zdq,zdq,WA,Yd,Array.toList_reverse];exact Hi.end h.swap
theorem Bt.lone (h:Bt rk T a b out na nb) (le:∀ x∈b.toList.take nb,∀ y∈a.toList.take na,rk x<=rk y):(b.extract 0 nb++a.extract 0 na++out.reverse).toList.Perm T/\Srt rk (b.extract 0 nb++a.extract 0 na++out.reverse).toList:=by
 rw[Ye,Ye,zdq,zdq,Array.toList_reverse];exact Hi.lone h le
end
section
variable {prog:Program}{w:World}{A:Around}{E:Value->Shared->Prop}{s:Shared}{κ:SortKind}{P:Keyed->Prop}{rk:Keyed->Int}
theorem zoC (C:Cmp prog w A s κ P rk) {st:SortSt}{a b:Array Keyed}{Q:Array Keyed->SortSt->Prop}(hk:kindOf st=κ) (pa:∀ x∈a.toList,P x) (pb:∀ x∈b.toList,P x) (sa:Srt rk a.toList) (sb:Srt rk b.toList) (a1:1<=a.size) (b1:1<=b.size)
  (first:∀ x,b[0]?=some x->∀ y∈a.toList,rk x<=rk y) (last:∀ x,a[a.size-1]?=some x->∀ y∈b.toList,rk y<=rk x)
  (h:∀ r st',Sm st st'->r.toList.Perm (a.toList++b.toList)->Srt rk r.toList->Q r st'):wpS (model prog w) A E s (zkV a b) Q st:=by
 have J:∀ i,i<a.size->∃ x,a[i]?=some x/\P x:=λi hi=>⟨_,getElem?_pos a i hi,pa _ (by simp)⟩;have W:∀ i,i<b.size->∃ x,b[i]?=some x/\P x:=λi hi=>⟨_,getElem?_pos b i hi,pb _ (by simp)⟩;obtain⟨z0,e0,_⟩:=J (a.size-1) (by lia)
 have lone:∀ {out:Array Keyed}{na:Nat},Bt rk (a.toList++b.toList) a b out na 1->(b.extract 0 1++a.extract 0 na++out.reverse).toList.Perm (a.toList++b.toList)/\Srt rk (b.extract 0 1++a.extract 0 na++out.reverse).toList:=λ{out na} L=>L.lone λx hx y hy=>by
  obtain⟨j,j1,ej⟩:=zbl hx;exact first x (by rw[show 0=j by lia];exact ej) y (Wc hy)
 have L0:Bt rk (a.toList++b.toList) a b #[z0] (a.size-1) b.size:=by
  have w0:Bt rk (a.toList++b.toList) a b #[] a.size b.size:=by
   have e1:a.toList.take a.size=a.toList:=Yf (by rw[Ju];exact Jg _);have e2:b.toList.take b.size=b.toList:=Yf (by rw[Ju];exact Jg _);unfold Bt;rw[e1,e2];exact⟨sa,sb,List.Pairwise.nil,λx hx y hy=>by simp at hy,λx hx y hy=>by simp at hy,by simp⟩
  exact w0.pushA a1 e0 λx hx=>last z0 e0 x (Wc hx)
 have size:∀ {out:Array Keyed}{na nb:Nat},Bt rk (a.toList++b.toList) a b out na nb->out.size<=a.size+b.size:=λ{out na nb} L=>by
  have:=L.pm.length_eq;simp only[Jn,List.length_reverse,Ju]at this;lia
 refine Jr (zcA ?_);refine Jr (zan e0 ?_);dsimp only;by_cases z1:a.size-1=0
 ·rw[Jf (by simpa using z1)]
  rw[z1]at L0 ⊢;obtain⟨e,d⟩:=L0.endA;exact Jp (h _ _ (Sm.refl _) e d)
 rw[Ja (by simpa using z1)];by_cases z2:b.size=1
 ·rw[Jf (by simpa using z2)]
  rw[z2]at L0 ⊢;obtain⟨e,d⟩:=lone L0;exact Jp (h _ _ (Sm.refl _) e d)
 rw[Ja (by simpa using z2)];refine Jr (Wp ?_)
 refine Jr (Zf (YB (I:=λi c H=>Sm st H/\∃ na nb out g,c=(none,na,nb,out,g)/\Bt rk (a.toList++b.toList) a b out na nb/\1<=na/\na<=a.size/\2<=nb/\nb<=b.size/\i+1<=out.size)
  (Q:=λc H=>Sm st H/\∃ r x,c=(some r,x)/\r.toList.Perm (a.toList++b.toList)/\Srt rk r.toList) ?step ?fin ⟨Sm.refl _,_,_,_,_,rfl,L0,by lia,by lia,by lia,by lia,by simp⟩) ?post)
 case post =>
  rintro c H ⟨S1,r,x,rfl,e,d⟩;exact Jp (h _ _ S1 e d)
 case fin =>
  rintro c H ⟨S1,na,nb,out,g,rfl,L,_,_,_,_,sz⟩;have:=size L;lia
 case step =>
  rintro i c H _ hi ⟨S1,na,nb,out,g,rfl,L,la,B,X,q,sz⟩;dsimp only
  refine Jr (Zf (YB (I:=λj c st2=>st2=H/\∃ na nb out ca U,c=(none,na,nb,out,ca,U)/\Bt rk (a.toList++b.toList) a b out na nb/\1<=na/\na<=a.size/\2<=nb/\nb<=b.size/\i+1+j<=out.size)
   (Q:=λc st2=>st2=H/\((∃ r x,c=(some r,x)/\r.toList.Perm (a.toList++b.toList)/\Srt rk r.toList)\/∃ na nb out ca U,c=(none,na,nb,out,ca,U)/\Bt rk (a.toList++b.toList) a b out na nb/\1<=na/\na<=a.size/\2<=nb/\nb<=b.size/\i+2<=out.size)) ?_ ?_ ⟨rfl,_,_,_,_,_,rfl,L,la,B,X,q,by lia⟩) ?_)
  ·rintro j c st2 _ hj ⟨rfl,na,nb,out,ca,U,rfl,L,la,B,X,q,sz⟩
   dsimp only;obtain⟨x,ex,px⟩:=J (na-1) (by lia);obtain⟨y,G,py⟩:=W (nb-1) (by lia);refine Jr (zan G (Jr (zan ex (Jr (zi7 C (S1.kind.trans hk) py px ?_)))));by_cases z:rk y<rk x
   ·rw[JG z]
    dsimp only;rw[Jf rfl];have L':=L.pushA la ex λu O=>Zx (zbt sb (by lia) G u O) (Int.le_of_lt z);refine Jr (zan ex ?_);by_cases D:na-1=0
    ·rw[Jf (by simpa using D)]
     rw[D]at L' ⊢;obtain⟨e,d⟩:=L'.endA;exact Jp ⟨rfl,.inl ⟨_,_,rfl,e,d⟩⟩
    ·rw[Ja (by simpa using D)]
     by_cases zg:ca+1>=g
     ·rw[Jf zg]
      exact Jp ⟨rfl,.inr ⟨_,_,_,_,_,rfl,L',by lia,by lia,X,q,by rw[Jy];lia⟩⟩
     ·rw[Ja zg]
      exact Jp ⟨rfl,_,_,_,_,_,rfl,L',by lia,by lia,X,q,by rw[Jy];lia⟩
   ·rw[Jv z]
    dsimp only;rw[Ja Jq];have L':=L.pushB (by lia) G λu O=>Zx (zbt sa la ex u O) (by lia);refine Jr (zan G ?_);by_cases D:nb-1=1
    ·rw[Jf (by simpa using D)]
     rw[D]at L' ⊢;obtain⟨e,d⟩:=lone L';exact Jp ⟨rfl,.inl ⟨_,_,rfl,e,d⟩⟩
    ·rw[Ja (by simpa using D)]
     by_cases zg:U+1>=g
     ·rw[Jf zg]
      exact Jp ⟨rfl,.inr ⟨_,_,_,_,_,rfl,L',la,B,by lia,by lia,by rw[Jy];lia⟩⟩
     ·rw[Ja zg]
      exact Jp ⟨rfl,_,_,_,_,_,rfl,L',la,B,by lia,by lia,by rw[Jy];lia⟩
  ·rintro c st2 ⟨rfl,na,nb,out,ca,U,rfl,L,la,B,X,q,sz⟩
   have:=size L;lia
  ·rintro c st2 ⟨rfl,⟨r,x,rfl,e,d⟩|⟨na,nb,out,ca,U,rfl,L,la,B,X,q,sz⟩⟩
   ·exact Jp ⟨S1,r,_,rfl,e,d⟩
   dsimp only;refine Jr (zcA ?_)
   refine Jr (Zf (YB (I:=λj c V=>Sm st V/\∃ na nb out g ca U,c=(none,na,nb,out,g,ca,U)/\Bt rk (a.toList++b.toList) a b out na nb/\1<=na/\na<=a.size/\2<=nb/\nb<=b.size/\i+2<=out.size)
    (Q:=λc V=>Sm st V/\((∃ r x,c=(some r,x)/\r.toList.Perm (a.toList++b.toList)/\Srt rk r.toList)\/∃ na nb out g ca U,c=(none,na,nb,out,g,ca,U)/\Bt rk (a.toList++b.toList) a b out na nb/\1<=na/\na<=a.size/\2<=nb/\nb<=b.size/\i+2<=out.size)) ?_ ?_ ⟨S1,_,_,_,_,_,_,rfl,L,la,B,X,q,sz⟩) ?_)
   ·rintro j c V _ hj ⟨S3,na,nb,out,g,ca,U,rfl,L,la,B,X,q,sz⟩
    dsimp only;obtain⟨y,G,py⟩:=W (nb-1) (by lia);by_cases zg:g > 1
    ·rw[Jf zg]
     refine Jr (zdP λad l=>?_);have l:=S3.trans l;refine Jr (zan G (Jr (zbq C (l.kind.trans hk) py (λt ht=>J (0+t) (by lia)) (zb8 sa (by lia)) (by lia) λk ab g1 g2=>?_)));dsimp only
     have L1:=L.cutA (i:=k) ab λt u tk tn Z v Y=>by
      have:=g2 t tk tn;rw[Yw,R_at Z]at this;unfold bd at this;simp only[Yb,Zb,Wz,Ya]at this;have:=zbt sb (by lia) G v Y;lia
     have hle:∀ u∈a.toList.take k,rk u<=rk y:=λu O=>by
      obtain⟨t,tk,et⟩:=zbl O;have:=g1 t tk;rw[Yw,R_at et]at this;unfold bd at this;simp only[Yb,Zb,ZZ,Y2]at this;lia
     have aa:i+2<=(out++(a.extract k na).reverse).size:=by rw[Jw];lia
     by_cases zk:na-k > 0
     ·rw[Jf zk]
      by_cases zc:k=0
      ·rw[Jf (by simpa using zc)]
       subst zc;obtain⟨e,d⟩:=L1.endA;exact Jp ⟨l,.inl ⟨_,_,rfl,e,d⟩⟩
      rw[Ja (by simpa using zc)];have N:1<=k:=by lia
      generalize na-k=kk;generalize out++(a.extract k na).reverse=out1 at L1 aa ⊢;refine Jr (zan G ?_);have L2:=L1.pushB (by lia) G hle;by_cases D:nb-1=1
      ·rw[Jf (by simpa using D)]
       rw[D]at L2 ⊢;obtain⟨e,d⟩:=lone L2;exact Jp ⟨l,.inl ⟨_,_,rfl,e,d⟩⟩
      rw[Ja (by simpa using D)];obtain⟨x1,f,S⟩:=J (k-1) (by lia);refine Jr (zan f (Jr (zbq C (l.kind.trans hk) S (λt ht=>W (0+t) (by lia)) (zb8 sb (by lia)) (by lia) λp T c1 c2=>?_)));dsimp only
      have R:=L2.cutB (i:=p) T λt u tk tn Z v Y=>by
       have:=c2 t tk tn;rw[Yw,R_at Z]at this;unfold bd at this;simp only[Yv,Y2]at this;have:=zbt sa N f v Y;lia
      have n:∀ u∈b.toList.take p,rk u<=rk x1:=λu O=>by
       obtain⟨t,tk,et⟩:=zbl O;have:=c1 t tk;rw[Yw,R_at et]at this;unfold bd at this;simp only[Yv,Ya]at this;lia
      by_cases F:nb-1-p > 0
      ·rw[Jf F]
       by_cases M:p=1
       ·rw[Jf (by simpa using M)]
        subst M;obtain⟨e,d⟩:=lone R;exact Jp ⟨l,.inl ⟨_,_,rfl,e,d⟩⟩
       rw[Ja (by simpa using M)];by_cases K:p=0
       ·rw[Jf (by simpa using K)]
        subst K;obtain⟨e,d⟩:=R.endB;exact Jp ⟨l,.inl ⟨_,_,rfl,e,d⟩⟩
       rw[Ja (by simpa using K)];refine Jr (zan f ?_);have m:=R.pushA N f n;by_cases o:k-1=0
       ·rw[Jf (by simpa using o)]
        rw[o]at m ⊢;obtain⟨e,d⟩:=m.endA;exact Jp ⟨l,.inl ⟨_,_,rfl,e,d⟩⟩
       rw[Ja (by simpa using o)];split
       ·exact Jp ⟨l,.inr ⟨_,_,_,_,_,_,rfl,m,by lia,by lia,by lia,by lia,by simp only[Jy,Jw];lia⟩⟩
       ·exact Jp ⟨l,_,_,_,_,_,_,rfl,m,by lia,by lia,by lia,by lia,by simp only[Jy,Jw];lia⟩
      ·rw[Ja F]
       obtain rfl:p=nb-1:=by lia
       refine Jr (zan f ?_);have m:=L2.pushA N f n;by_cases o:k-1=0
       ·rw[Jf (by simpa using o)]
        rw[o]at m ⊢;obtain⟨e,d⟩:=m.endA;exact Jp ⟨l,.inl ⟨_,_,rfl,e,d⟩⟩
       rw[Ja (by simpa using o)];split
       ·exact Jp ⟨l,.inr ⟨_,_,_,_,_,_,rfl,m,by lia,by lia,by lia,by lia,by simp only[Jy,Jw];lia⟩⟩
       ·exact Jp ⟨l,_,_,_,_,_,_,rfl,m,by lia,by lia,by lia,by lia,by simp only[Jy,Jw];lia⟩
     ·rw[Ja zk]
      obtain rfl:k=na:=by lia
      have L1:=L;have N:=la;have aa:=sz;generalize k-k=kk;refine Jr (zan G ?_);have L2:=L1.pushB (by lia) G hle;by_cases D:nb-1=1
      ·rw[Jf (by simpa using D)]
       rw[D]at L2 ⊢;obtain⟨e,d⟩:=lone L2;exact Jp ⟨l,.inl ⟨_,_,rfl,e,d⟩⟩
      rw[Ja (by simpa using D)];obtain⟨x1,f,S⟩:=J (k-1) (by lia);refine Jr (zan f (Jr (zbq C (l.kind.trans hk) S (λt ht=>W (0+t) (by lia)) (zb8 sb (by lia)) (by lia) λp T c1 c2=>?_)));dsimp only
      have R:=L2.cutB (i:=p) T λt u tk tn Z v Y=>by
       have:=c2 t tk tn;rw[Yw,R_at Z]at this;unfold bd at this;simp only[Yv,Y2]at this;have:=zbt sa N f v Y;lia
      have n:∀ u∈b.toList.take p,rk u<=rk x1:=λu O=>by
       obtain⟨t,tk,et⟩:=zbl O;have:=c1 t tk;rw[Yw,R_at et]at this;unfold bd at this;simp only[Yv,Ya]at this;lia
      by_cases F:nb-1-p > 0
      ·rw[Jf F]
       by_cases M:p=1
       ·rw[Jf (by simpa using M)]
        subst M;obtain⟨e,d⟩:=lone R;exact Jp ⟨l,.inl ⟨_,_,rfl,e,d⟩⟩
       rw[Ja (by simpa using M)];by_cases K:p=0
       ·rw[Jf (by simpa using K)]
        subst K;obtain⟨e,d⟩:=R.endB;exact Jp ⟨l,.inl ⟨_,_,rfl,e,d⟩⟩
       rw[Ja (by simpa using K)];refine Jr (zan f ?_);have m:=R.pushA N f n;by_cases o:k-1=0
       ·rw[Jf (by simpa using o)]
        rw[o]at m ⊢;obtain⟨e,d⟩:=m.endA;exact Jp ⟨l,.inl ⟨_,_,rfl,e,d⟩⟩
       rw[Ja (by simpa using o)];split
       ·exact Jp ⟨l,.inr ⟨_,_,_,_,_,_,rfl,m,by lia,by lia,by lia,by lia,by simp only[Jy,Jw];lia⟩⟩
       ·exact Jp ⟨l,_,_,_,_,_,_,rfl,m,by lia,by lia,by lia,by lia,by simp only[Jy,Jw];lia⟩
      ·rw[Ja F]
       obtain rfl:p=nb-1:=by lia
       refine Jr (zan f ?_);have m:=L2.pushA N f n;by_cases o:k-1=0
       ·rw[Jf (by simpa using o)]
        rw[o]at m ⊢;obtain⟨e,d⟩:=m.endA;exact Jp ⟨l,.inl ⟨_,_,rfl,e,d⟩⟩
       rw[Ja (by simpa using o)];split
       ·exact Jp ⟨l,.inr ⟨_,_,_,_,_,_,rfl,m,by lia,by lia,by lia,by lia,by simp only[Jy,Jw];lia⟩⟩
       ·exact Jp ⟨l,_,_,_,_,_,_,rfl,m,by lia,by lia,by lia,by lia,by simp only[Jy,Jw];lia⟩
    ·rw[Ja zg]
     refine Jr (zdP λad l=>?_);have l:=S3.trans l;refine Jr (zan G (Jr (zbq C (l.kind.trans hk) py (λt ht=>J (0+t) (by lia)) (zb8 sa (by lia)) (by lia) λk ab g1 g2=>?_)));dsimp only
     have L1:=L.cutA (i:=k) ab λt u tk tn Z v Y=>by
      have:=g2 t tk tn;rw[Yw,R_at Z]at this;unfold bd at this;simp only[Yb,Zb,Wz,Ya]at this;have:=zbt sb (by lia) G v Y;lia
     have hle:∀ u∈a.toList.take k,rk u<=rk y:=λu O=>by
      obtain⟨t,tk,et⟩:=zbl O;have:=g1 t tk;rw[Yw,R_at et]at this;unfold bd at this;simp only[Yb,Zb,ZZ,Y2]at this;lia
     have aa:i+2<=(out++(a.extract k na).reverse).size:=by rw[Jw];lia
     by_cases zk:na-k > 0
     ·rw[Jf zk]
      by_cases zc:k=0
      ·rw[Jf (by simpa using zc)]
       subst zc;obtain⟨e,d⟩:=L1.endA;exact Jp ⟨l,.inl ⟨_,_,rfl,e,d⟩⟩
      rw[Ja (by simpa using zc)];have N:1<=k:=by lia
      generalize na-k=kk;generalize out++(a.extract k na).reverse=out1 at L1 aa ⊢;refine Jr (zan G ?_);have L2:=L1.pushB (by lia) G hle;by_cases D:nb-1=1
      ·rw[Jf (by simpa using D)]
       rw[D]at L2 ⊢;obtain⟨e,d⟩:=lone L2;exact Jp ⟨l,.inl ⟨_,_,rfl,e,d⟩⟩
      rw[Ja (by simpa using D)];obtain⟨x1,f,S⟩:=J (k-1) (by lia);refine Jr (zan f (Jr (zbq C (l.kind.trans hk) S (λt ht=>W (0+t) (by lia)) (zb8 sb (by lia)) (by lia) λp T c1 c2=>?_)));dsimp only
      have R:=L2.cutB (i:=p) T λt u tk tn Z v Y=>by
       have:=c2 t tk tn;rw[Yw,R_at Z]at this;unfold bd at this;simp only[Yv,Y2]at this;have:=zbt sa N f v Y;lia
      have n:∀ u∈b.toList.take p,rk u<=rk x1:=λu O=>by
       obtain⟨t,tk,et⟩:=zbl O;have:=c1 t tk;rw[Yw,R_at et]at this;unfold bd at this;simp only[Yv,Ya]at this;lia
      by_cases F:nb-1-p > 0
      ·rw[Jf F]
       by_cases M:p=1
       ·rw[Jf (by simpa using M)]
        subst M;obtain⟨e,d⟩:=lone R;exact Jp ⟨l,.inl ⟨_,_,rfl,e,d⟩⟩
       rw[Ja (by simpa using M)];by_cases K:p=0
       ·rw[Jf (by simpa using K)]
        subst K;obtain⟨e,d⟩:=R.endB;exact Jp ⟨l,.inl ⟨_,_,rfl,e,d⟩⟩
       rw[Ja (by simpa using K)];refine Jr (zan f ?_);have m:=R.pushA N f n;by_cases o:k-1=0
       ·rw[Jf (by simpa using o)]
        rw[o]at m ⊢;obtain⟨e,d⟩:=m.endA;exact Jp ⟨l,.inl ⟨_,_,rfl,e,d⟩⟩
       rw[Ja (by simpa using o)];split
       ·exact Jp ⟨l,.inr ⟨_,_,_,_,_,_,rfl,m,by lia,by lia,by lia,by lia,by simp only[Jy,Jw];lia⟩⟩
       ·exact Jp ⟨l,_,_,_,_,_,_,rfl,m,by lia,by lia,by lia,by lia,by simp only[Jy,Jw];lia⟩
      ·rw[Ja F]
       obtain rfl:p=nb-1:=by lia
       refine Jr (zan f ?_);have m:=L2.pushA N f n;by_cases o:k-1=0
       ·rw[Jf (by simpa using o)]
        rw[o]at m ⊢;obtain⟨e,d⟩:=m.endA;exact Jp ⟨l,.inl ⟨_,_,rfl,e,d⟩⟩
       rw[Ja (by simpa using o)];split
       ·exact Jp ⟨l,.inr ⟨_,_,_,_,_,_,rfl,m,by lia,by lia,by lia,by lia,by simp only[Jy,Jw];lia⟩⟩
       ·exact Jp ⟨l,_,_,_,_,_,_,rfl,m,by lia,by lia,by lia,by lia,by simp only[Jy,Jw];lia⟩
     ·rw[Ja zk]
      obtain rfl:k=na:=by lia
      have L1:=L;have N:=la;have aa:=sz;generalize k-k=kk;refine Jr (zan G ?_);have L2:=L1.pushB (by lia) G hle;by_cases D:nb-1=1
      ·rw[Jf (by simpa using D)]
       rw[D]at L2 ⊢;obtain⟨e,d⟩:=lone L2;exact Jp ⟨l,.inl ⟨_,_,rfl,e,d⟩⟩
      rw[Ja (by simpa using D)];obtain⟨x1,f,S⟩:=J (k-1) (by lia);refine Jr (zan f (Jr (zbq C (l.kind.trans hk) S (λt ht=>W (0+t) (by lia)) (zb8 sb (by lia)) (by lia) λp T c1 c2=>?_)));dsimp only
      have R:=L2.cutB (i:=p) T λt u tk tn Z v Y=>by
       have:=c2 t tk tn;rw[Yw,R_at Z]at this;unfold bd at this;simp only[Yv,Y2]at this;have:=zbt sa N f v Y;lia
      have n:∀ u∈b.toList.take p,rk u<=rk x1:=λu O=>by
       obtain⟨t,tk,et⟩:=zbl O;have:=c1 t tk;rw[Yw,R_at et]at this;unfold bd at this;simp only[Yv,Ya]at this;lia
      by_cases F:nb-1-p > 0
      ·rw[Jf F]
       by_cases M:p=1
       ·rw[Jf (by simpa using M)]
        subst M;obtain⟨e,d⟩:=lone R;exact Jp ⟨l,.inl ⟨_,_,rfl,e,d⟩⟩
       rw[Ja (by simpa using M)];by_cases K:p=0
       ·rw[Jf (by simpa using K)]
        subst K;obtain⟨e,d⟩:=R.endB;exact Jp ⟨l,.inl ⟨_,_,rfl,e,d⟩⟩
       rw[Ja (by simpa using K)];refine Jr (zan f ?_);have m:=R.pushA N f n;by_cases o:k-1=0
       ·rw[Jf (by simpa using o)]
        rw[o]at m ⊢;obtain⟨e,d⟩:=m.endA;exact Jp ⟨l,.inl ⟨_,_,rfl,e,d⟩⟩
       rw[Ja (by simpa using o)];split
       ·exact Jp ⟨l,.inr ⟨_,_,_,_,_,_,rfl,m,by lia,by lia,by lia,by lia,by simp only[Jy,Jw];lia⟩⟩
       ·exact Jp ⟨l,_,_,_,_,_,_,rfl,m,by lia,by lia,by lia,by lia,by simp only[Jy,Jw];lia⟩
      ·rw[Ja F]
       obtain rfl:p=nb-1:=by lia
       refine Jr (zan f ?_);have m:=L2.pushA N f n;by_cases o:k-1=0
       ·rw[Jf (by simpa using o)]
        rw[o]at m ⊢;obtain⟨e,d⟩:=m.endA;exact Jp ⟨l,.inl ⟨_,_,rfl,e,d⟩⟩
       rw[Ja (by simpa using o)];split
       ·exact Jp ⟨l,.inr ⟨_,_,_,_,_,_,rfl,m,by lia,by lia,by lia,by lia,by simp only[Jy,Jw];lia⟩⟩
       ·exact Jp ⟨l,_,_,_,_,_,_,rfl,m,by lia,by lia,by lia,by lia,by simp only[Jy,Jw];lia⟩
   ·rintro c V ⟨S3,na,nb,out,g,ca,U,rfl,L,la,B,X,q,sz⟩
    exact⟨S3,.inr ⟨_,_,_,_,_,_,rfl,L,la,B,X,q,sz⟩⟩
   ·rintro c V ⟨S3,⟨r,x,rfl,e,d⟩|⟨na,nb,out,g,ca,U,rfl,L,la,B,X,q,sz⟩⟩
    ·exact Jp ⟨S3,r,_,rfl,e,d⟩
    dsimp only;refine Jr (zdP λad l=>?_);exact Jp ⟨S3.trans l,_,_,_,_,rfl,L,la,B,X,q,by lia⟩
end
section
variable {rk:Keyed->Int}
theorem zdC (b:Nat):∀ (l:List Keyed) (o:Nat) (arr:Array Keyed),b+o+l.length<=arr.size->(List.foldl (λ(a:Array Keyed) (x:Keyed × Nat)=>a.setIfInBounds (b+x.2) x.1) arr (l.zipIdx o)).toList=arr.toList.take (b+o)++l++arr.toList.drop (b+o+l.length)
 | [],o,arr,_=>by
  show arr.toList=_
  rw[Yd,Wg,YL,ZC]
 | x::l,o,arr,h=>by
  rw[JW]at h;rw[List.zipIdx_cons,ZQ,zdC b l (o+1) _ (by rw[Array.size_setIfInBounds];lia)];have c:b+o<arr.toList.length:=by rw[Ju];lia
  rw[Array.toList_setIfInBounds,<- ZA,List.drop_set_of_lt (by lia),JW,show b+o+1+l.length=b+o+(l.length+1) by lia]
  have e:(arr.toList.set (b+o) x).take (b+o+1)=arr.toList.take (b+o)++[x]:=by
   rw[Y7 (by rw[Z9];exact c),List.getElem_set_self,List.take_set_of_le (Jg _)]
  rw[e,JY (arr.toList.take (b+o)) [x] l];rfl
theorem zjM {arr:Array Keyed}{i n j:Nat}(h:i+j<n) (hn:n<=arr.size):(arr.extract i n)[j]?=arr[i+j]?:=by
 rw[Array.getElem?_extract_of_lt (by lia)];exact(getElem?_pos arr (i+j) (by lia)).symm
theorem zib {arr:Array Keyed}{lo n:Nat}(h:Up rk arr lo n) (hn:lo+n<=arr.size):Srt rk (arr.extract lo (lo+n)).toList:=by
 refine List.pairwise_iff_getElem.mpr λi j hi b c=>?_;have a:(arr.extract lo (lo+n)).size=n:=by rw[Array.size_extract];lia
 rw[Ju,a]at hi b;have:=h (lo+i) (lo+j) (by lia) (by lia) (by lia);rw[R_at (getElem?_pos arr (lo+i) (by lia)),R_at (getElem?_pos arr (lo+j) (by lia))]at this;simpa using this
end
section
variable {prog:Program}{w:World}{A:Around}{E:Value->Shared->Prop}{s:Shared}{κ:SortKind}{P:Keyed->Prop}{rk:Keyed->Int}{a₀:Array Keyed}
theorem zoD (C:Cmp prog w A s κ P rk) {st:SortSt}{Q:Bool->SortSt->Prop}{i sa na p sb nb q:Nat}(D:Bs κ P a₀ st) (e1:(pendingOf st)[i]?=some (sa,na,p)) (e2:(pendingOf st)[i+1]?=some (sb,nb,q)) (hs:sb=sa+na) (n1:1<=na) (n2:1<=nb) (hz:sb+nb<=a₀.size)
  (H:Up rk (arrOf st) sa na) (G:Up rk (arrOf st) sb nb)
  (h:∀ st',Bs κ P a₀ st'->pendingOf st'=((pendingOf st).setIfInBounds i (sa,na+nb,p)).eraseIdxIfInBounds (i+1)->(∀ k,k<sa\/sb+nb<=k->R rk (arrOf st') k=R rk (arrOf st) k)->Up rk (arrOf st') sa (na+nb)->Q true st'):wpS (model prog w) A E s (mergeAt' i) Q st:=by
 refine Jr (Wp ?_);dsimp only;rw[e1,e2];dsimp only;obtain⟨b0,T,ae,ab⟩:=D.at (i:=sb) (by lia) rk;have sz:=D.size
 have V:∀ {c st2:SortSt}{Q':PUnit->SortSt->Prop},Q' ⟨⟩ st2->wpS (model prog w) A E s (set st2:StateT SortSt Sem PUnit) Q' c:=λ{c st2 Q'} hq=>by
  unfold wpS;rw[StateT.run_set];exact J7 ⟨rfl,hq⟩
 refine Jr (V (st2:=SortSt.mk' (kindOf st) (arrOf st) (((pendingOf st).setIfInBounds i (sa,na+nb,p)).eraseIdxIfInBounds (i+1)) (gallopOf st) (failedOf st)) ?_);generalize J:SortSt.mk' (kindOf st) (arrOf st) (((pendingOf st).setIfInBounds i (sa,na+nb,p)).eraseIdxIfInBounds (i+1)) (gallopOf st) (failedOf st)=c;have d:Bs κ P a₀ c:=by rw[<- J];exact⟨D.kind,D.fail,D.perm,D.all⟩
 have O:arrOf c=arrOf st:=by rw[<- J]
 have ep:pendingOf c=((pendingOf st).setIfInBounds i (sa,na+nb,p)).eraseIdxIfInBounds (i+1):=by rw[<- J]
 have pat:∀ j,j<a₀.size->∃ x,(arrOf st)[j]?=some x/\P x:=λj B=>by
  obtain⟨x,ex,Z,_⟩:=D.at B rk;exact⟨x,ex,Z⟩
 refine Jr (zan T (Jr (zbq (arr:=arrOf st) C d.kind ae (λt M=>pat (sa+t) (by lia)) H (by lia) λk ah g1 g2=>?_)));dsimp only
 have f1:∀ j,sa<=j->j<sa+k->R rk (arrOf st) j<=rk b0:=λj l o=>by
  have:=g1 (j-sa) (by lia);rw[show sa+(j-sa)=j by lia]at this;unfold bd at this;simp only[Yb,Zb,ZZ,Y2]at this;lia
 have f2:∀ j,sa+k<=j->j<sb->rk b0<=R rk (arrOf st) j:=λj l o=>by
  have:=g2 (j-sa) (by lia) (by lia);rw[show sa+(j-sa)=j by lia]at this;unfold bd at this;simp only[Yb,Zb,Wz,Ya]at this;lia
 have f0:∀ j,sb<=j->j<sb+nb->rk b0<=R rk (arrOf st) j:=λj l o=>by rw[<- ab];exact G _ _ (Jg _) l o
 by_cases zk:na-k=0
 ·rw[Jf (by simpa using zk)]
  refine Jp (h c d ep (λj _=>by rw[O]) λx y g b F=>?_);rw[O];by_cases q1:y<sb
  ·exact H _ _ g b (by lia)
  ·by_cases q2:sb<=x
   ·exact G _ _ q2 b (by lia)
   ·exact Zx (f1 x g (by lia)) (f0 y (by lia) (by lia))
 rw[Ja (by simpa using zk)];have ka:sa+k+(na-k)-1=sb-1:=by lia
 rw[ka];obtain⟨l0,S,ad,aa⟩:=D.at (i:=sb-1) (by lia) rk;refine Jr (zan S (Jr (zbq (arr:=arrOf st) C d.kind ad (λt M=>pat (sb+t) (by lia)) G (by lia) λn ag c1 c2=>?_)));dsimp only
 have f3:∀ j,sb<=j->j<sb+n->R rk (arrOf st) j<=rk l0:=λj l o=>by
  have:=c1 (j-sb) (by lia);rw[show sb+(j-sb)=j by lia]at this;unfold bd at this;simp only[Yv,Ya]at this;lia
 have f4:∀ j,sb+n<=j->j<sb+nb->rk l0<=R rk (arrOf st) j:=λj l o=>by
  have:=c2 (j-sb) (by lia) (by lia);rw[show sb+(j-sb)=j by lia]at this;unfold bd at this;simp only[Yv,Y2]at this;lia
 have f5:∀ j,sa<=j->j<sb->R rk (arrOf st) j<=rk l0:=λj l o=>by rw[<- aa];exact H _ _ l (by lia) (by lia)
 by_cases zn:n=0
 ·rw[Jf (by simpa using zn)]
  refine Jp (h c d ep (λj _=>by rw[O]) λx y g b F=>?_);rw[O];by_cases q1:y<sb
  ·exact H _ _ g b (by lia)
  ·by_cases q2:sb<=x
   ·exact G _ _ q2 b (by lia)
   ·exact Zx (f5 x g (by lia)) (f4 y (by lia) (by lia))
 rw[Ja (by simpa using zn)];have Y:((arrOf st).extract (sa+k) sb).size=na-k:=by rw[Array.size_extract];lia
 have sy:((arrOf st).extract sb (sb+n)).size=n:=by rw[Array.size_extract];lia
 have Z:∀ x∈((arrOf st).extract (sa+k) sb).toList,P x:=λx g=>by
  obtain⟨j,l,o,I⟩:=zdr g;obtain⟨y,N,py⟩:=pat j (by lia);rw[I]at N;cases N;exact py
 have py:∀ x∈((arrOf st).extract sb (sb+n)).toList,P x:=λx g=>by
  obtain⟨j,l,o,I⟩:=zdr g;obtain⟨y,N,py⟩:=pat j (by lia);rw[I]at N;cases N;exact py
 have ox:Srt rk ((arrOf st).extract (sa+k) sb).toList:=by
  have:=zib (rk:=rk) (arr:=arrOf st) (lo:=sa+k) (n:=na-k) (λx y g b F=>H x y (by lia) b (by lia)) (by lia)
  rwa [show sa+k+(na-k)=sb by lia]at this
 have oy:Srt rk ((arrOf st).extract sb (sb+n)).toList:=zib (λx y g b F=>G x y (by lia) b (by lia)) (by lia)
 have first:∀ x,((arrOf st).extract sb (sb+n))[0]?=some x->∀ y∈((arrOf st).extract (sa+k) sb).toList,rk x<=rk y:=λx ex y F=>by
  rw[zjM (by lia) (by lia),YL,T]at ex;obtain⟨j,l,o,I⟩:=zdr F;have:=f2 j l o;rw[R_at I]at this;cases ex;exact this
 have last:∀ x,((arrOf st).extract (sa+k) sb)[((arrOf st).extract (sa+k) sb).size-1]?=some x->∀ y∈((arrOf st).extract sb (sb+n)).toList,rk y<=rk x:=λx ex y F=>by
  rw[Y,zjM (by lia) (by lia),show sa+k+(na-k-1)=sb-1 by lia,S]at ex;obtain⟨j,l,o,I⟩:=zdr F;have:=f3 j l (by lia);rw[R_at I]at this;cases ex;exact this
 have fin:∀ (m:Array Keyed) (st2:SortSt),Sm c st2->m.toList.Perm (((arrOf st).extract (sa+k) sb).toList++((arrOf st).extract sb (sb+n)).toList)->Srt rk m.toList ->
   wpS (model prog w) A E s (do
    modify λs=>setArr s (m.toList.zipIdx.foldl (λ(a:Array Keyed) (x:Keyed × Nat)=>a.setIfInBounds (sa+k+x.2) x.1) (arrOf s))
    let s' <- get
    pure (failedOf s').isNone) Q st2:=by
  intro m st2 S2 pm L;have U:arrOf st2=arrOf st:=S2.arr.trans O;have K:m.toList.length=na-k+n:=by rw[pm.length_eq,Jn,Ju,Ju,Y,sy]
  have wl:=zdC (sa+k) m.toList 0 (arrOf st2) (by rw[U,sz,K];lia);generalize hW:List.foldl (λ(a:Array Keyed) (x:Keyed × Nat)=>a.setIfInBounds (sa+k+x.2) x.1) (arrOf st2) m.toList.zipIdx=W at wl;rw[YL,K,U,show sa+k+(na-k+n)=sb+n by lia]at wl
  have X:(arrOf st).toList=(arrOf st).toList.take (sa+k)++(((arrOf st).extract (sa+k) sb).toList++((arrOf st).extract sb (sb+n)).toList)++(arrOf st).toList.drop (sb+n):=by
   have d1:=zev (arrOf st) (sa+k) (na-k);rw[show sa+k+(na-k)=sb by lia]at d1;have d2:=zev (arrOf st) sb n;rw[JY,JY,<- d2,<- d1,ZC]
  have pw:W.Perm (arrOf st):=by
   rw[Array.perm_iff_toList_perm,wl]
   conv=>rhs;rw[X]
   exact((pm.append_left _).append_right _)
  have r:((arrOf st).toList.take (sa+k)).length=sa+k:=by rw[JE,Ju,sz];lia
  have af:W.size=a₀.size:=by rw[pw.size_eq,sz]
  have z:∀ j,j<sa+k->R rk W j=R rk (arrOf st) j:=λj B=>R_congr (by
   rw[<- Yi,<- Yi,wl,JY,Yj (by rw[r];exact B),ZN B])
  have f:∀ j,sb+n<=j->R rk W j=R rk (arrOf st) j:=λj B=>R_congr (by
   rw[<- Yi,<- Yi,wl,Yg (by rw[Jn,r,K];lia),Jn,r,K,List.getElem?_drop]
   congr 1;lia)
  have mid:∀ j,sa+k<=j->j<sb+n->∃ x,m[j-(sa+k)]?=some x/\R rk W j=rk x:=λj l o=>by
   have jl:j-(sa+k)<m.size:=by rw[<- Ju,K];lia
   refine⟨_,getElem?_pos m _ jl,R_at ?_⟩;rw[<- Yi,wl,JY,Yg (by rw[r];exact l),r,Yj (by rw[K];lia),Yi];exact getElem?_pos m _ jl
  have kids:∀ j x,m[j]?=some x->∃ t,((sa+k<=t/\t<sb)\/(sb<=t/\t<sb+n))/\R rk (arrOf st) t=rk x:=λj x ex=>by
   have hm:x∈m.toList:=by
    obtain⟨B,e⟩:=JK.mp ex;rw[<- e];simp
   rcases Jx.mp (pm.mem_iff.mp hm) with u|u
   ·obtain⟨t,t1,t2,et⟩:=zdr u
    exact⟨t,.inl ⟨t1,t2⟩,R_at et⟩
   ·obtain⟨t,t1,t2,et⟩:=zdr u
    exact⟨t,.inr ⟨t1,t2⟩,R_at et⟩
  refine Jr (Wx (Jr (Wp (Jp ?_))));rw[hW]
  have ff:(failedOf (setArr st2 W)).isNone=true:=by
   show (failedOf st2).isNone=true;rw[S2.fail,d.fail];rfl
  rw[ff];refine h _ ⟨S2.kind.trans d.kind,S2.fail.trans d.fail,pw.trans D.perm,D.all⟩ (S2.pend.trans ep) (λj B=>?_) λx y g b F=>?_
  ·rcases B with B|B
   ·exact z j (by lia)
   ·exact f j (by lia)
  ·show R rk W x<=R rk W y
   by_cases x1:x<sa+k
   ·rw[z x x1]
    by_cases y1:y<sa+k
    ·rw[z y y1];exact H _ _ g b (by lia)
    ·by_cases y2:y<sb+n
     ·obtain⟨v,ev,rv⟩:=mid y (by lia) y2
      obtain⟨t,M,rt⟩:=kids _ v ev;rw[rv,<- rt];rcases M with ⟨t1,t2⟩|⟨t1,t2⟩
      ·exact H _ _ g (by lia) (by lia)
      ·exact Zx (f1 x g x1) (f0 t t1 (by lia))
     ·rw[f y (by lia)]
      exact Zx (f1 x g x1) (f0 y (by lia) (by lia))
   ·by_cases x2:x<sb+n
    ·obtain⟨u,eu,ru⟩:=mid x (by lia) x2
     rw[ru];by_cases y2:y<sb+n
     ·obtain⟨v,ev,rv⟩:=mid y (by lia) y2
      rw[rv]
      have:=zb8 L (base:=0) (n:=m.size) (by lia) (x-(sa+k)) (y-(sa+k)) (JS _) (by lia) (by
       have:=(JK.mp ev).1
       lia)
      rwa [R_at eu,R_at ev]at this
     ·rw[f y (by lia)]
      obtain⟨t,M,rt⟩:=kids _ u eu;rw[<- rt];rcases M with ⟨t1,t2⟩|⟨t1,t2⟩
      ·exact Zx (f5 t (by lia) t2) (f4 y (by lia) (by lia))
      ·exact G _ _ t1 (by lia) (by lia)
    ·rw[f x (by lia),f y (by lia)]
     exact G _ _ (by lia) b (by lia)
 split
 ·exact Jr (zow C d.kind Z py ox oy (by rw[Y];lia) (by rw[sy];lia) first last λm st2 S2 pm L=>fin m st2 S2 pm L)
 ·exact Jr (zoC C d.kind Z py ox oy (by rw[Y];lia) (by rw[sy];lia) first last λm st2 S2 pm L=>fin m st2 S2 pm L)
end
abbrev Run:=Nat × Nat × Nat
def Runs:List Run->Nat->Nat->Prop
 | [],u,v=>u=v
 | x::r,u,v=>x.1=u/\1<=x.2.1/\Runs r (u+x.2.1) v
theorem Runs.cut:∀ {l r:List Run}{u v:Nat},Runs (l++r) u v->∃ m,Runs l u m/\Runs r m v
 | [],_,u,_,h=>⟨u,rfl,h⟩
 | x::l,r,u,v,⟨h1,d,c⟩=>by
  obtain⟨m,a,b⟩:=Runs.cut (l:=l) (r:=r) c;exact⟨m,⟨h1,d,a⟩,b⟩
theorem Runs.app:∀ {l r:List Run}{u m v:Nat},Runs l u m->Runs r m v->Runs (l++r) u v
 | [],_,_,_,_,h,g=>by cases h;exact g
 | x::l,r,u,m,v,⟨h1,b,a⟩,g=>⟨h1,b,Runs.app a g⟩
theorem Runs.len:∀ {l:List Run}{u v:Nat},Runs l u v->u+l.length<=v
 | [],_,_,h=>by cases h;exact Jg _
 | x::l,u,v,⟨h1,b,a⟩=>by
  have:=Runs.len a;rw[JW];lia
theorem Runs.mem:∀ {l:List Run}{u v:Nat}{x:Run},Runs l u v->x∈l->u<=x.1/\1<=x.2.1/\x.1+x.2.1<=v
 | y::l,u,v,x,⟨h1,d,b⟩,c=>by
  rcases Jh.mp c with rfl|a
  ·have:=Runs.len b;lia
  ·have:=Runs.mem b a;lia
theorem Runs.modify {f:Run->Run}(a:∀ x,(f x).1=x.1/\(f x).2.1=x.2.1):∀ {l:List Run}{i u v:Nat},Runs l u v->Runs (l.modify i f) u v
 | [],i,_,_,h=>by cases i<;>exact h
 | x::l,0,u,v,⟨h1,c,b⟩=>by
  rw[List.modify_zero_cons]
  refine⟨(a x).1.trans h1,by rw[(a x).2];exact c,by rw[(a x).2];exact b⟩
 | x::l,i+1,u,v,⟨h1,c,b⟩=>by
  rw[List.modify_succ_cons];exact⟨h1,c,Runs.modify a b⟩
theorem zcD {f:Run->Run}(a:∀ x,(f x).1=x.1/\(f x).2.1=x.2.1):∀ {l:List Run}{i:Nat}{x:Run},x∈l.modify i f->∃ y∈l,x.1=y.1/\x.2.1=y.2.1
 | [],i,x,h=>by cases i<;>simp at h
 | y::l,0,x,h=>by
  rw[List.modify_zero_cons]at h;rcases Jh.mp h with rfl|b
  ·exact⟨y,JC,(a y).1,(a y).2⟩
  ·exact⟨x,JB _ b,rfl,rfl⟩
 | y::l,i+1,x,h=>by
  rw[List.modify_succ_cons]at h;rcases Jh.mp h with rfl|b
  ·exact⟨x,JC,rfl,rfl⟩
  ·obtain⟨z,hz,e⟩:=zcD a b
   exact⟨z,JB _ hz,e⟩
section
variable {prog:Program}{w:World}{A:Around}{E:Value->Shared->Prop}{s:Shared}{κ:SortKind}{P:Keyed->Prop}{rk:Keyed->Int}{a₀:Array Keyed}
structure Ji (κ:SortKind) (P:Keyed->Prop) (rk:Keyed->Int) (a₀:Array Keyed) (lo:Nat) (st:SortSt):Prop where
 b:Bs κ P a₀ st
 runs:Runs (pendingOf st).toList 0 lo
 up:∀ x∈(pendingOf st).toList,Up rk (arrOf st) x.1 x.2.1
theorem zmJ (C:Cmp prog w A s κ P rk) {st:SortSt}{lo i:Nat}{Q:Bool->SortSt->Prop}(J:Ji κ P rk a₀ lo st) (L:lo<=a₀.size) (hi:i+1<(pendingOf st).size)
  (h:∀ st',Ji κ P rk a₀ lo st'->(∀ k,lo<=k->R rk (arrOf st') k=R rk (arrOf st) k)->(pendingOf st').size+1=(pendingOf st).size->Q true st'):wpS (model prog w) A E s (mergeAt' i) Q st:=by
 obtain⟨x,ex⟩:∃ x,(pendingOf st)[i]?=some x:=⟨_,getElem?_pos _ i (by lia)⟩;obtain⟨y,v⟩:∃ y,(pendingOf st)[i+1]?=some y:=⟨_,getElem?_pos _ (i+1) hi⟩;have o:(pendingOf st).toList[i]?=some x:=by rw[Yi];exact ex
 have n:(pendingOf st).toList[i+1]?=some y:=by rw[Yi];exact v
 obtain⟨l,H⟩:=J9.mp o;obtain⟨j,G⟩:=J9.mp n
 have sp:(pendingOf st).toList=(pendingOf st).toList.take i++x::y::(pendingOf st).toList.drop (i+1+1):=by
  rw[<- H,<- G,<- YX j,<- YX l,ZC]
 have t:=J.runs;have up:=J.up;generalize b:(pendingOf st).toList.take i=pre at sp;generalize r:(pendingOf st).toList.drop (i+1+1)=post at sp;have F:pre.length=i:=by rw[<- b,JE];lia
 rw[sp]at t up;obtain⟨m,u,D⟩:=t.cut;obtain⟨s1,n1,s2,n2,e⟩:=D;obtain⟨sa,na,p⟩:=x;obtain⟨sb,nb,q⟩:=y;simp only at s1 n1 s2 n2 e;have M:=e.len;refine zoD C J.b ex v (by lia) n1 n2 (by lia) (up (sa,na,p) (by simp)) (up (sb,nb,q) (by simp)) λst' K ep low B=>?_
 have g:(pendingOf st').toList=pre++(sa,na+nb,p)::post:=by
  rw[ep,Array.toList_eraseIdxIfInBounds,Array.toList_setIfInBounds,sp,List.set_append_right _ _ (by lia),List.eraseIdx_append_of_length_le (by lia),F,Nat.sub_self,Nat.add_sub_cancel_left];rfl
 refine h st' ⟨K,?_,?_⟩ (λk N=>low k (.inr (by lia))) ?_
 ·rw[g]
  refine u.app ⟨s1,by show 1<=na+nb;lia,?_⟩;show Runs post (m+(na+nb)) lo;rw[<- ZA];exact e
 ·rw[g]
  intro z hz;rcases Jx.mp hz with hz|hz
  ·have I:=u.mem hz
   intro c d f a hd;rw[low c (.inl (by lia)),low d (.inl (by lia))];exact up z (Ym _ hz) c d f a hd
  ·rcases Jh.mp hz with rfl|hz
   ·exact B
   ·have I:=e.mem hz
    intro c d f a hd;rw[low c (.inr (by lia)),low d (.inr (by lia))];exact up z (Jz _ (by simp[hz])) c d f a hd
 ·rw[<- Ju,<- Ju,g,sp]
  simp only[Jn,JW];lia
theorem zmc (C:Cmp prog w A s κ P rk) {st:SortSt}{Q:Unit->SortSt->Prop}(Z:Bs κ P a₀ st) (Y:pendingOf st = #[])
  (h:∀ st',Bs κ P a₀ st'->Up rk (arrOf st') 0 a₀.size->Q () st'):wpS (model prog w) A E s sortRuns' Q st:=by
 rw[sortRuns'_eq];refine Jr (Wp ?_);dsimp only;rw[Z.size];generalize minRun' a₀.size a₀.size 0=N
 refine Jr (Zf (YB (I:=λi c m=>∃ lo,c=(none,lo)/\i<=lo/\lo<=a₀.size/\Ji κ P rk a₀ lo m)
  (Q:=λc m=>∃ lo,c=(none,lo)/\lo=a₀.size/\Ji κ P rk a₀ lo m) ?step ?fin ?init) ?post)
 case init=>exact⟨0,rfl,Jg _,JS _,Z,by rw[Y];rfl,λx p=>by rw[Y]at p;simp at p⟩
 case fin =>
  rintro c m ⟨lo,rfl,h1,S,J⟩;exact⟨lo,rfl,by lia,J⟩
 case step =>
  rintro i c m _ hi ⟨lo,rfl,h1,S,J⟩;dsimp only;by_cases z:lo>=a₀.size
  ·rw[Jf z]
   exact Jp ⟨lo,rfl,by lia,J⟩
  rw[Ja z];refine Jr (zlh C J.b (by lia) (by lia) λst2 n U n1 n2 X=>?_);dsimp only
  have Jk:∀ f,Keep κ P rk a₀ lo m f->Ji κ P rk a₀ lo f:=λf G=>⟨G.b,by rw[G.pend];exact J.runs,λx p=>by
   rw[G.pend]at p;have:=J.runs.mem p;intro c d B u hd;rw[G.low c (by lia),G.low d (by lia)]
   exact J.up x p c d B u hd⟩
  by_cases W:n<N
  ·rw[Jf W]
   refine Jr (zcA ?_);refine Jr (zn4 C U.b n1 (by lia) (by lia) X λf G u3=>?_);have n1:1<=min (a₀.size-lo) N:=by lia
   have n2:min (a₀.size-lo) N<=a₀.size-lo:=by lia
   have v:=Jk f (U.trans G);generalize min (a₀.size-lo) N=n at n1 n2 u3 ⊢;rw[Ja (show ¬(!true)=true by decide)];refine Jr (Wp ?_)
   have last:∀ a,Ji κ P rk a₀ lo a->Up rk (arrOf a) lo n->wpS (model prog w) A E s (do
     modify λl=>setPending l ((pendingOf l).push (lo,n,0))
     pure (ForInStep.yield ((none:Option Unit),lo+n))) (λr st'=>match r with|.done F=>∃ lo,F=(none,lo)/\lo=a₀.size/\Ji κ P rk a₀ lo st'|.yield F=>∃ lo,F=(none,lo)/\i+1<=lo/\lo<=a₀.size/\Ji κ P rk a₀ lo st') a:=by
    intro a e k;refine Jr (Wx (Jp ⟨lo+n,rfl,by lia,by lia,⟨e.b.kind,e.b.fail,e.b.perm,e.b.all⟩,?_,?_⟩))
    ·show Runs ((pendingOf a).push (lo,n,0)).toList 0 (lo+n)
     rw[Z7];exact e.runs.app ⟨rfl,n1,rfl⟩
    ·show ∀ x∈((pendingOf a).push (lo,n,0)).toList,Up rk (arrOf a) x.1 x.2.1
     rw[Z7];intro x p;rcases Jx.mp p with o|o
     ·exact e.up x o
     ·rw[Jd.mp o];exact k
   split
   ·rename_i s1 m1 w1 hb
    refine Jr (Zf (YB (I:=λj c a=>c=(none,())/\Ji κ P rk a₀ lo a/\Up rk (arrOf a) lo n) (Q:=λc a=>c=(none,())/\Ji κ P rk a₀ lo a/\Up rk (arrOf a) lo n) ?_ (λc a R=>R) ⟨rfl,v,u3⟩) ?_)
    ·rintro j c a _ hj ⟨rfl,e,k⟩
     refine Jr (Wp ?_);split
     ·rename_i a1 a2 H K
      split
      ·exact Jp ⟨rfl,e,k⟩
      ·have sz:(pendingOf a).size > 1:=by
        by_cases q:(pendingOf a).size > 1
        ·exact q
        ·rw[Ja q]at K;cases K
       refine Jr (zmJ C e S (by lia) λl V g _=>?_);rw[Ja (show ¬(!true)=true by decide)];exact Jp ⟨rfl,V,λc d B u hd=>by rw[g c B,g d (by lia)];exact k c d B u hd⟩
     ·exact Jp ⟨rfl,e,k⟩
    ·rintro c a ⟨rfl,e,k⟩
     dsimp only;refine Jr (Wx ?_);refine last _ ⟨⟨e.b.kind,e.b.fail,e.b.perm,e.b.all⟩,?_,?_⟩ k
     ·show Runs ((pendingOf a).modify _ _).toList 0 lo
      rw[Wk];refine Runs.modify ?_ e.runs;exact λx=>⟨rfl,rfl⟩
     ·show ∀ x∈((pendingOf a).modify _ _).toList,Up rk (arrOf a) x.1 x.2.1
      rw[Wk];intro x p;obtain⟨y,O,T,e2⟩:=zcD (by exact λx=>⟨rfl,rfl⟩) p;rw[T,e2];exact e.up y O
   ·exact last _ v u3
  ·rw[Ja W]
   have v:=Jk st2 U;have u3:=X;generalize st2=f at v u3 ⊢;refine Jr (Wp ?_)
   have last:∀ a,Ji κ P rk a₀ lo a->Up rk (arrOf a) lo n->wpS (model prog w) A E s (do
     modify λl=>setPending l ((pendingOf l).push (lo,n,0))
     pure (ForInStep.yield ((none:Option Unit),lo+n))) (λr st'=>match r with|.done F=>∃ lo,F=(none,lo)/\lo=a₀.size/\Ji κ P rk a₀ lo st'|.yield F=>∃ lo,F=(none,lo)/\i+1<=lo/\lo<=a₀.size/\Ji κ P rk a₀ lo st') a:=by
    intro a e k;refine Jr (Wx (Jp ⟨lo+n,rfl,by lia,by lia,⟨e.b.kind,e.b.fail,e.b.perm,e.b.all⟩,?_,?_⟩))
    ·show Runs ((pendingOf a).push (lo,n,0)).toList 0 (lo+n)
     rw[Z7];exact e.runs.app ⟨rfl,n1,rfl⟩
    ·show ∀ x∈((pendingOf a).push (lo,n,0)).toList,Up rk (arrOf a) x.1 x.2.1
     rw[Z7];intro x p;rcases Jx.mp p with o|o
     ·exact e.up x o
     ·rw[Jd.mp o];exact k
   split
   ·rename_i s1 m1 w1 hb
    refine Jr (Zf (YB (I:=λj c a=>c=(none,())/\Ji κ P rk a₀ lo a/\Up rk (arrOf a) lo n) (Q:=λc a=>c=(none,())/\Ji κ P rk a₀ lo a/\Up rk (arrOf a) lo n) ?_ (λc a R=>R) ⟨rfl,v,u3⟩) ?_)
    ·rintro j c a _ hj ⟨rfl,e,k⟩
     refine Jr (Wp ?_);split
     ·rename_i a1 a2 H K
      split
      ·exact Jp ⟨rfl,e,k⟩
      ·have sz:(pendingOf a).size > 1:=by
        by_cases q:(pendingOf a).size > 1
        ·exact q
        ·rw[Ja q]at K;cases K
       refine Jr (zmJ C e S (by lia) λl V g _=>?_);rw[Ja (show ¬(!true)=true by decide)];exact Jp ⟨rfl,V,λc d B u hd=>by rw[g c B,g d (by lia)];exact k c d B u hd⟩
     ·exact Jp ⟨rfl,e,k⟩
    ·rintro c a ⟨rfl,e,k⟩
     dsimp only;refine Jr (Wx ?_);refine last _ ⟨⟨e.b.kind,e.b.fail,e.b.perm,e.b.all⟩,?_,?_⟩ k
     ·show Runs ((pendingOf a).modify _ _).toList 0 lo
      rw[Wk];refine Runs.modify ?_ e.runs;exact λx=>⟨rfl,rfl⟩
     ·show ∀ x∈((pendingOf a).modify _ _).toList,Up rk (arrOf a) x.1 x.2.1
      rw[Wk];intro x p;obtain⟨y,O,T,e2⟩:=zcD (by exact λx=>⟨rfl,rfl⟩) p;rw[T,e2];exact e.up y O
   ·exact last _ v u3
 case post =>
  rintro c m ⟨lo,rfl,rfl,J⟩;dsimp only
  refine Jr (Zf (YB (I:=λi c st2=>c=(none,())/\Ji κ P rk a₀ a₀.size st2/\(pendingOf st2).size<=a₀.size-i+1)
   (Q:=λc st2=>c=(none,())/\Ji κ P rk a₀ a₀.size st2/\(pendingOf st2).size<=1) ?_ ?_ ⟨rfl,J,?_⟩) ?_)
  ·rintro i c st2 _ hi ⟨rfl,D,sz⟩
   refine Jr (Wp ?_);by_cases z:(pendingOf st2).size<=1
   ·rw[Jf z]
    exact Jp ⟨rfl,D,z⟩
   rw[Ja z]
   have go:∀ t,t+1<(pendingOf st2).size->wpS (model prog w) A E s (mergeAt' t) (λb f=>b=true/\Ji κ P rk a₀ a₀.size f/\(pendingOf f).size<=a₀.size-(i+1)+1) st2:=λt ht =>
    zmJ C D (Jg _) ht λf v _ L=>⟨rfl,v,by lia⟩
   refine Jr (Zf (go _ ?_) ?_)
   ·repeat' split
    all_goals lia
   ·rintro b f ⟨rfl,v,L⟩
    exact Jp ⟨rfl,v,L⟩
  ·rintro c st2 ⟨rfl,D,sz⟩
   exact⟨rfl,D,by lia⟩
  ·have:=J.runs.len
   rw[Ju]at this;lia
  ·rintro c st2 ⟨rfl,D,sz⟩
   refine Jp (h st2 D.b ?_);have M:=D.runs;have up:=D.up;have ln:(pendingOf st2).toList.length<=1:=by rw[Ju];exact sz
   match hq:(pendingOf st2).toList,ln with
   | [],_ =>
    rw[hq]at M;intro c d B u hd;have:0=a₀.size:=M
    lia
   | [x],_ =>
    rw[hq]at M up;obtain⟨r1,r2,r3⟩:=M;have:0+x.2.1=a₀.size:=r3;have:=up x (by simp);rw[r1,show x.2.1=a₀.size by lia]at this;exact this
end
section
variable {prog:Program}{w:World}{A:Around}{E:Value->Shared->Prop}{s:Shared}
theorem zil {a:Addr}{vs:List Value}{n:Nat}{r:Fin->Shared->Prop}(m:s.heap.get? a=some (seqObj "list" vs.toArray n)) (hz:vs.length<=10000) (κ:SortKind) (d:Value->Int)
  (f:∀ h',(∀ c o,c≠a->s.heap.get? c=some o->h'.get? c=some o)->2<=vs.length->∀ {Q:SortKind->Shared->Prop}{E:Value->Shared->Prop},Q κ { s with heap:=h' }->wpAny (model prog w) A (keyKind' vs.toArray) Q E { s with heap:=h' })
  (j:∀ h',(∀ c o,c≠a->s.heap.get? c=some o->h'.get? c=some o)->Cmp prog w A { s with heap:=h' } κ (λp=>p.1∈vs) (λp=>d p.1))
  (h:∀ out:List Value,out.Perm vs->out.Pairwise (λx y=>d x<=d y)->r (.done (.ret .none)) { s with heap:=sortedHeap s.heap a vs out.toArray }) :
  wpAny (model prog w) A (Builtin.«list.sort» ⟨[.ref a],[]⟩) r E s:=by
 have al:a<s.heap.objs.size:=Jc m;have ln:vs.toArray.size=vs.length:=Jj ..;have sl:vs.length<=sizeLine:=JX hz (by decide);rw[list_sort_plain];refine J0 (listItems_at m rfl (J0 (listUpdate_at m rfl ?_ (hsz:=by rw[ln];exact sl))));obtain⟨ep,v⟩:∃ ep,(s.heap.update a (Obj.mapSeq λ_=>#[])).get? a=some (seqObj "list" #[] ep):=⟨_,get?_update_seq m λ_=>#[]⟩;refine J0 (seqEpoch_at v rfl (J0 (Wv (J0 (wpAny_newList (Y1 ?_))))))
 have g:(((s.heap.update a (Obj.mapSeq λ_=>#[])).push (seqObj "tuple" vs.toArray 0)).push (seqObj "list" #[] 0)).get? a=some (seqObj "list" #[] ep) :=
  J8 _ (J8 _ v)
 have old:∀ c o,c≠a->s.heap.get? c=some o->(((s.heap.update a (Obj.mapSeq λ_=>#[])).push (seqObj "tuple" vs.toArray 0)).push (seqObj "list" #[] 0)).get? c=some o:=λc o D q =>
  J8 _ (J8 _ ((JZ _ _ (Ne.symm D)).trans q))
 show wpAny (model prog w) A _ r E { s with heap:=((s.heap.update a (Obj.mapSeq λ_=>#[])).push (seqObj "tuple" vs.toArray 0)).push (seqObj "list" #[] 0) };have lo:∀ out:List Value,out.Perm vs->out.toArray.size<=sizeLine+1:=λout B=>by rw[Jj,B.length_eq];lia
 generalize H:((s.heap.update a (Obj.mapSeq λ_=>#[])).push (seqObj "tuple" vs.toArray 0)).push (seqObj "list" #[] 0)=h6 at g old ⊢;have back:∀ out:Array Value,sortedHeap s.heap a vs out=h6.update a (Obj.mapSeq λ_=>out):=λout=>by rw[<- H];rfl
 by_cases few:vs.toArray.size<2
 ·rw[Jf few,Jf few]
  refine J0 (J7 (?_:wpAny _ _ _ _ _ _));refine J0 (J7 ?_)
  have em:(vs.toArray.zip vs.toArray).map (·.2)=vs.toArray:=by
   apply Array.ext';rw[Array.toList_map,Array.toList_zip];exact List.map_snd_zip (Jg _)
  have one:vs.Pairwise (λx y=>d x<=d y):=by
   match vs,few with
   | [],_=>exact List.Pairwise.nil
   | [x],_=>exact List.pairwise_singleton _ _
   | _::_::_,z=>simp at z;lia
  have k:=h vs (List.Perm.refl _) one;rw[back]at k;dsimp only;rw[em];refine J0 (seqEpoch_at g rfl (J0 (listUpdate_at g rfl ?_ (hsz:=JS _) (hsz2:=lo vs (List.Perm.refl _)))));simp only[Zb,bne_self_eq_false,Yb];exact J7 k
 rw[Ja few,Ja few];refine J0 (f h6 old (by lia) ?_);have C:=j h6 old
 refine J0 (JU (zmc C (a₀:=vs.toArray.zip vs.toArray) (st:=SortSt.mk' κ (vs.toArray.zip vs.toArray) #[] 7 none)
  (Q:=λ_ st'=>Bs κ (λp=>p.1∈vs) (vs.toArray.zip vs.toArray) st'/\Up (λp=>d p.1) (arrOf st') 0 (vs.toArray.zip vs.toArray).size) ⟨rfl,rfl,Array.Perm.refl _,λp l=>?_⟩ rfl λst' b u=>⟨b,u⟩) ?_ λ_ _ e=>e)
 ·have:(vs.toArray.zip vs.toArray).toList=vs.zip vs:=by simp
  rw[this]at l;exact(List.of_mem_zip l).1
 rintro⟨⟨⟩,st'⟩ s' ⟨rfl,b,u⟩
 have t:(arrOf st').toList.Perm (vs.zip vs):=by
  have:=Array.perm_iff_toList_perm.mp b.perm;simpa using this
 have same:∀ p∈(arrOf st').toList,p.1=p.2:=λp l=>by
  have h1:=t.mem_iff.mp l;obtain⟨i,hi⟩:=YY.mp h1;rw[Zg]at hi;have:=hi.1.symm.trans hi.2;exact Js this
 have so:Srt (λp=>d p.1) (arrOf st').toList:=by
  have:=zib (arr:=arrOf st') (lo:=0) (n:=(arrOf st').size) (by rw[b.size];exact u) (by lia);rw[Yw,zdq,<- Ju,Yq]at this;exact this
 have pm:((arrOf st').toList.map (·.2)).Perm vs:=by
  have:=t.map (·.2)
  rwa [List.map_snd_zip (Jg _)]at this
 have em:(arrOf st').map (·.2)=((arrOf st').toList.map (·.2)).toArray:=by
  apply Array.ext';simp
 have k:=h _ pm (by
  refine List.pairwise_map.mpr (List.Pairwise.imp_of_mem ?_ so);intro x y G F le
  rw[<- same x G,<- same y F];exact le)
 rw[back]at k;dsimp only;rw[em,b.fail];refine J0 (seqEpoch_at g rfl (J0 (listUpdate_at g rfl ?_ (hsz:=JS _) (hsz2:=lo _ pm))));simp only[Zb,bne_self_eq_false,Yb];exact J7 k
end
end Ts
namespace Own
open PySem PySem.Spec PyProof.Rows
abbrev IsZipN (h:Heap) (z TI TO t:Addr) (c:Bool):Prop:=h.get? z=some { cls:=.type "zip",dict:=none,data:=.fields #[rawInt t,.bool c,.bool false,.ref TI,.ref TO],slots:=#[] }
section
variable {prog:Program}{w:World}{A:Around}{E:Value->Shared->Prop}{s:Shared}{z TI TO i1 i2:Addr}{f1 f2:List Addr}{n1 n2 k:Nat}{P1 P2:Nat->Value->Prop}{S1 S2:Nat->Heap->Prop}
theorem zdZ {α:Type}{t:Addr}{c:Bool}{o:Obj}{f:Bool->Sem α}{Q:α->Shared->Prop}(hz:IsZipN s.heap z TI TO t c) (b:s.heap.get? t=some o) (h:∀ h',IsZipN h' z TI TO t true->Heap.SameBut z s.heap h'->wpAny (model prog w) A (f false) Q E { s with heap:=h' }) :
  wpAny (model prog w) A (Builtin.SmallTypes.ownedTupleIsFree (.ref z) >>= f) Q E s:=by
 refine J0 ?_;unfold Builtin.SmallTypes.ownedTupleIsFree;refine rf 0 hz rfl rfl ?_;show wpAny _ _ (loadIfAlive ((t:Int).toNat) >>= _) _ _ _;rw[Yt];refine J0 (PySem.W.kdx_alive b ?_);simp only[Yb,Zb,Option.isNone_some];refine rf (x:=.bool c) 1 hz rfl rfl ?_;have d:(Value.bool true != Value.bool true)=false:=rfl;have e:(Value.bool false != Value.bool true)=true:=rfl
 cases c with
 | true =>
  rw[d]
  exact J7 (h s.heap hz (Heap.SameBut.refl _ _))
 | false =>
  rw[e];exact J0 (Y4 hz (show 1<5 by decide) λh' a sb=>J7 (h h' a sb))
theorem zhQ {t:Addr}{c:Bool}{o:Obj}(S:Sep z TI TO i1 i2 f1 f2) (f:Draws prog w A i1 f1 n1 P1 S1) (d:Draws prog w A i2 f2 n2 P2 S2) {Q:Value->Shared->Prop}
  (hz:IsZipN s.heap z TI TO t c) (l:s.heap.get? t=some o) (m:IsPair s.heap TI (.ref i1) (.ref i2)) (u:S1 k s.heap) (p:S2 k s.heap) (l1:k<n1) (l2:k<n2)
  (h:∀ x y h' tk,P1 k x->P2 k y->IsZipN h' z TI TO t true->S1 (k+1) h'->S2 (k+1) h'->IsPair h' s.heap.objs.size x y ->
   (∀ c o,c∉[z,TO,i1,i2]->s.heap.get? c=some o->h'.get? c=some o)->Q (.ref s.heap.objs.size) { s with heap:=h',toks:=tk }) :
  wpAny (model prog w) A (Builtin.«zip.__next__» ⟨[.ref z],[]⟩) (λr s'=>∃ v,r=.done (.ret v)/\Q v s') E s:=by
 have nd:=S.all;simp only[JJ,Jh,Je,Y0,Zn]at nd;obtain⟨⟨D,C,z1,z2⟩,⟨IO,I,H⟩,⟨G,F⟩,B,_⟩:=nd;refine rf 2 hz rfl rfl (rf 3 hz rfl rfl (J0 (Y3 m rfl (zdZ hz l λha i sa=>?_))));rw[Ja Jq];refine J0 ?_;simp only[List.forIn_toArray,Yy,YS];refine J0 (J0 (Y1 (J0 (f.item k _ _ _ l1 (f.frame _ _ _ u λc a o e=>(sa.2 c λq=>S.z1 (q ▸ a)).trans e) λx hb tb j db sb=>J7 (J7 ?_)))));have st2:S2 k hb:=d.frame _ _ _ p λc hm o e=>(sb.2 c λq=>S.o2 (q ▸ hm)).trans ((sa.2 c λq=>S.z2 (q ▸ hm)).trans e);refine J0 (J0 (Y1 (J0 (d.item k _ _ _ l2 st2 λy hd td py n b=>J7 (J7 (J7 ?_))))));refine J0 (Wv (J7 ⟨_,rfl,?_⟩) (hsz:=by show 2<=sizeLine;decide));have sz:hd.objs.size=s.heap.objs.size:=by rw[b.1,sb.1,sa.1]
 show Q (.ref hd.objs.size) _;rw[sz];have g:IsZipN hd z TI TO t true:=(b.2 z z2).trans ((sb.2 z z1).trans i);have new:(hd.push { cls:=.type "tuple",data:=.seq #[x,y] }).get? s.heap.objs.size=some { cls:=.type "tuple",data:=.seq #[x,y] }:=by rw[<- sz];exact Jt _ rfl
 refine h x y _ td j py (J8 _ g) ?_ ?_ new λc o a e=>?_
 ·exact f.frame _ _ _ db λc hm o e=>J8 _ ((b.2 c λq=>S.o1 (q ▸ hm)).trans e)
 ·exact d.frame _ _ _ n λc hm o e=>J8 _ e
 ·simp only[Jh,Je,Y0,Zn]at a
  exact J8 _ ((b.2 c a.2.2.2).trans ((sb.2 c a.2.2.1).trans ((sa.2 c a.1).trans e)))
theorem zeE {t:Addr}{c:Bool}{o:Obj}(S:Sep z TI TO i1 i2 f1 f2) (a:Draws prog w A i1 f1 n1 P1 S1) {Q:Fin->Shared->Prop}(hz:IsZipN s.heap z TI TO t c) (d:s.heap.get? t=some o) (g:IsPair s.heap TI (.ref i1) (.ref i2)) (i:S1 n1 s.heap)
  (h:∀ h' x,(∀ c o,c∉[z,TO,i1,i2]->s.heap.get? c=some o->h'.get? c=some o)->(∃ o,h'.get? x=some o/\o.cls=.type "StopIteration")->E (.ref x) { s with heap:=h' }):wpAny (model prog w) A (Builtin.«zip.__next__» ⟨[.ref z],[]⟩) Q E s:=by
 refine rf 2 hz rfl rfl (rf 3 hz rfl rfl (J0 (Y3 g rfl (zdZ hz d λha j sa=>?_))));rw[Ja Jq];refine J0 ?_;simp only[List.forIn_toArray,Yy,YS];refine J0 (J0 (Y1 (J0 (a.done _ _ _ (a.frame _ _ _ i λc f o e=>(sa.2 c λq=>S.z1 (q ▸ f)).trans e) λhb x b ex=>?_))));refine h hb x (λc o hm e=>?_) ex;simp only[Jh,Je,Y0,Zn]at hm;exact b c o hm.2.2.1 ((sa.2 c hm.1).trans e)
end
theorem zeF:typeLookup (.type "zip") "__len__" = pure none:=by rw[typeLookup_type,builtinLookup_eq_fast];kernel_rfl
theorem zdB:typeLookup (.type "zip") "__length_hint__" = pure none:=by rw[typeLookup_type,builtinLookup_eq_fast];kernel_rfl
def ZSt (z TI TO i1 i2:Addr) (S1 S2:Nat->Heap->Prop) (k:Nat) (acc:Array Value) (h:Heap):Prop :=
 IsPair h TI (.ref i1) (.ref i2)/\S1 k h/\S2 k h/\((k=0/\IsZip h z TI TO .none/\∃ a b,IsPair h TO a b)\/(1<=k/\∃ t c,acc[0]?=some (.ref t)/\IsZipN h z TI TO t c))
def Kept (a:List Addr) (P1 P2:Nat->Value->Prop) (acc:Array Value) (h:Heap):Prop:=∀ j v,acc[j]?=some v->∃ t x y,v=.ref t/\t∉a/\IsPair h t x y/\P1 j x/\P2 j y
section
variable {prog:Program}{w:World}{A:Around}{E:Value->Shared->Prop}{s:Shared}{z TI TO i1 i2 L:Addr}{f1 f2:List Addr}{n n2 k:Nat}{P1 P2:Nat->Value->Prop}{S1 S2:Nat->Heap->Prop}
theorem zne {acc:Array Value}(S:Sep z TI TO i1 i2 f1 f2) (G:Draws prog w A.in1 i1 f1 n P1 S1) (F:Draws prog w A.in1 i2 f2 n2 P2 S2) (hle:n<=n2) {Q:Option Value->Shared->Prop}(Z:ZSt z TI TO i1 i2 S1 S2 k acc s.heap) (K:Kept [z,TI,TO,i1,i2,L] P1 P2 acc s.heap) (ha:acc.size=k) (X:L<s.heap.objs.size) (I:TO<s.heap.objs.size) (N:k<n)
  (h:∀ h' tk x y,P1 k x->P2 k y->IsPair h' s.heap.objs.size x y->ZSt z TI TO i1 i2 S1 S2 (k+1) (acc.push (.ref s.heap.objs.size)) h'->Kept [z,TI,TO,i1,i2,L] P1 P2 (acc.push (.ref s.heap.objs.size)) h' ->
   (∀ c o,c∉[z,TO,i1,i2]->s.heap.get? c=some o->h'.get? c=some o)->Q (some (.ref s.heap.objs.size)) { s with heap:=h',toks:=tk }):wpAny (model prog w) A (pyNext (.ref z)) Q E s:=by
 obtain⟨l,D,C,st⟩:=Z;have nd:=S.all;simp only[JJ,Jh,Je,Y0,Zn]at nd;obtain⟨⟨J,zO,z1,z2⟩,⟨IO,R,P⟩,⟨O1,O2⟩,aa,_⟩:=nd;obtain⟨o1,e1⟩:=G.live _ _ D;obtain⟨o2,e2⟩:=F.live _ _ C
 have old:∀ h':Heap,(∀ c o,c∉[z,TO,i1,i2]->s.heap.get? c=some o->h'.get? c=some o)->∀ x y,IsPair h' s.heap.objs.size x y->P1 k x->P2 k y->(∃ M,s.heap.get? z=some M)->TO<s.heap.objs.size->Kept [z,TI,TO,i1,i2,L] P1 P2 (acc.push (.ref s.heap.objs.size)) h':=by
  intro h' f x y new V py ⟨M,Y⟩ lt j v i;by_cases q:j<acc.size
  ·rw[Array.getElem?_push_lt q]at i
   obtain⟨t,U,T,rfl,B,r,g,p2⟩:=K j v ((getElem?_pos acc j q).trans i);refine⟨t,U,T,rfl,B,f t _ (λm=>B ?_) r,g,p2⟩;simp only[Jh,Je,Y0]at m ⊢;rcases m with m|m|m|m<;>simp[m]
  ·have W:j<(acc.push (.ref s.heap.objs.size)).size:=(JK.mp i).1
   rw[Jy]at W;obtain rfl:j=acc.size:=by lia
   rw[Array.getElem?_push_size]at i;obtain rfl:=Js i;refine⟨_,x,y,rfl,λm=>?_,new,by rw[ha];exact V,by rw[ha];exact py⟩;simp only[Jh,Je,Y0]at m;have b1:=Jc Y;have b2:=Jc l;have b3:=Jc e1;have b4:=Jc e2;rcases m with m|m|m|m|m|m
   ·exact JT b1 m
   ·exact JT b2 m
   ·exact JT lt m
   ·exact JT b3 m
   ·exact JT b4 m
   ·exact JT X m
 have first:∀ t,acc[0]?=some (Value.ref t)->(acc.push (.ref s.heap.objs.size))[0]?=some (Value.ref t):=λt e=>by
  have q:=(JK.mp e).1;rw[Array.getElem?_push_lt q];exact(getElem?_pos acc 0 q).symm.trans e
 rcases st with ⟨rfl,hz,a,b,O⟩|⟨k1,t,c,r,hz⟩
 ·have d:s.TypeIs (.ref z) "zip":=⟨_,hz,rfl⟩
  unfold pyNext
  refine J0 (Zc (wpAny_callSpecial?_slot (name:="__next__") d YM (JV YM d W7 (zgo S G F hz l O D C N (by lia)
   λx y h' tk g p2 u Oh s1 s2 new f=>J7 ?_) (W0 _))))
  have p:acc = #[]:=Array.size_eq_zero_iff.mp ha;subst p;exact h h' tk x y g p2 new ⟨f TI _ (by simp[Ne.symm J,IO,R,P]) l,s1,s2,.inr ⟨by lia,s.heap.objs.size,false,rfl,u⟩⟩ (old h' f x y new g p2 ⟨_,hz⟩ (Jc O)) f
 ·have d:s.TypeIs (.ref z) "zip":=⟨_,hz,rfl⟩
  obtain⟨t',x0,y0,et,B,H,_,_⟩:=K 0 _ r;cases et;unfold pyNext
  refine J0 (Zc (wpAny_callSpecial?_slot (name:="__next__") d YM (JV YM d W7 (zhQ S G F hz H l D C N (by lia)
   λx y h' tk g p2 u s1 s2 new f=>J7 ?_) (W0 _))))
  exact h h' tk x y g p2 new ⟨f TI _ (by simp[Ne.symm J,IO,R,P]) l,s1,s2,.inr ⟨by lia,t,true,first t r,u⟩⟩ (old h' f x y new g p2 ⟨_,hz⟩ I) f
theorem zlK {acc:Array Value}(S:Sep z TI TO i1 i2 f1 f2) (k:Draws prog w A.in1 i1 f1 n P1 S1) {Q:Option Value->Shared->Prop}(Z:ZSt z TI TO i1 i2 S1 S2 n acc s.heap) (K:Kept [z,TI,TO,i1,i2,L] P1 P2 acc s.heap)
  (h:∀ h',(∀ c o,c∉[z,TO,i1,i2]->s.heap.get? c=some o->h'.get? c=some o)->Q none { s with heap:=h' }):wpAny (model prog w) A (pyNext (.ref z)) Q E s:=by
 obtain⟨i,j,v,st⟩:=Z;rcases st with ⟨rfl,hz,a,b,u⟩|⟨r,t,c,l,hz⟩
 ·have d:s.TypeIs (.ref z) "zip":=⟨_,hz,rfl⟩
  unfold pyNext;refine J0 (Zc (wpAny_callSpecial?_slot (name:="__next__") d YM (JV YM d W7 (zgn S k hz i j λh' x e ⟨o,f,co⟩=>?_) (W0 _))));exact J0 (Zr (T:="StopIteration") (b:=true) ⟨o,f,co⟩ isSubtype_stop (J7 (h h' e)))
 ·have d:s.TypeIs (.ref z) "zip":=⟨_,hz,rfl⟩
  obtain⟨t',x0,p,m,q,g,_,_⟩:=K 0 _ l;cases m;unfold pyNext;refine J0 (Zc (wpAny_callSpecial?_slot (name:="__next__") d YM (JV YM d W7 (zeE S k hz g i j λh' x e ⟨o,f,co⟩=>?_) (W0 _))));exact J0 (Zr (T:="StopIteration") (b:=true) ⟨o,f,co⟩ isSubtype_stop (J7 (h h' e)))
theorem zjB {res:Value}{R:Result->Shared->Prop}{J:Array Value->Shared->Prop}(S:Sep z TI TO i1 i2 f1 f2) (G:Draws prog w A.in1.in1 i1 f1 n P1 S1) (W:Draws prog w A.in1.in1 i2 f2 n2 P2 S2) (hle:n<=n2) (O:L∉[z,TI,TO,i1,i2]++f1++f2) (hn:n<=sizeLine)
  (jn:∀ (acc:Array Value) (s:Shared) (h':Heap) tk x y,J acc s->L<s.heap.objs.size->P1 acc.size x->P2 acc.size y->IsPair h' s.heap.objs.size x y->(∀ c o,c∉[z,TO,i1,i2]->s.heap.get? c=some o->h'.get? c=some o)->J (acc.push (.ref s.heap.objs.size)) { s with heap:=h',toks:=tk })
  (P:∀ (acc:Array Value) (s:Shared) (h':Heap) tk,J acc s->(∀ c o,c∉[z,TO,i1,i2,L]->s.heap.get? c=some o->h'.get? c=some o)->J acc { s with heap:=h',toks:=tk }) :
  ∀ (m k:Nat) (s:Shared) (acc:Array Value) (c:Nat),k+m=n->acc.size=k->ZSt z TI TO i1 i2 S1 S2 k acc s.heap->Kept [z,TI,TO,i1,i2,L] P1 P2 acc s.heap->s.heap.get? L=some { cls:=.type "list",dict:=none,data:=.seq acc c,slots:=#[] }->TO<s.heap.objs.size->J acc s ->
   (∀ h' tk a l,a.size=n->J a { s with heap:=h',toks:=tk }->Kept [z,TI,TO,i1,i2,L] P1 P2 a h'->h'.get? L=some { cls:=.type "list",dict:=none,data:=.seq a l,slots:=#[] }->(∀ b o,b∉[z,TO,i1,i2,L]->s.heap.get? b=some o->h'.get? b=some o)->R (.ok (.ret res)) { s with heap:=h',toks:=tk }) ->
   codeAny (model prog w) A (.builtin "list.extend.loop" ⟨[.ref L,.ref z,res],[]⟩) R s:=by
 simp only[Jx,Jh,Je,Y0,Zn]at O;obtain⟨⟨⟨E,LI,T,U,L2⟩,N⟩,M⟩:=O;intro m
 induction m with
 | zero =>
  intro k s acc c Y ha Z K r g B fin;obtain rfl:k=n:=by lia
  refine Zk F.entry_extend_loop (by
   refine Z5 Wm _ ▸ (show wpAny _ A.in1 (pyNext (.ref z) >>= _) _ _ _ from J0 (zlK S G Z K λh' f=>?_));refine J7 (fin h' s.toks acc c ha (P acc s h' s.toks B λc o D e=>f c o (λm=>D (by simp only[Jh,Je,Y0]at m ⊢;rcases m with m|m|m|m<;>simp[m])) e) (λj v C=>?_) (f L _ (by simp[E,T,U,L2]) r) λb o hb e=>f b o (λm=>hb ?_) e)
   ·obtain⟨t,x,y,rfl,h,i,u,p2⟩:=K j v C
    refine⟨t,x,y,rfl,h,f t _ (λm=>h ?_) i,u,p2⟩;simp only[Jh,Je,Y0]at m ⊢;rcases m with m|m|m|m<;>simp[m]
   ·simp only[Jh,Je,Y0]at m ⊢
    rcases m with m|m|m|m<;>simp[m])
 | succ m ih =>
  intro k s acc c Y ha Z K r g B fin;have Q:=Jc r
  refine Zk F.entry_extend_loop (by
   refine Z5 Wm _ ▸ (show wpAny _ A.in1 (pyNext (.ref z) >>= _) _ _ _ from J0 (zne (L:=L) S G W hle Z K ha Q g (by lia) λh1 tk x y X py new Z1 V f=>?_));have p:=f L _ (by simp[E,T,U,L2]) r;show wpAny _ A.in1 (updateSeq L (·.push (.ref s.heap.objs.size)) >>= _) _ _ _;refine J0 (Za p rfl ?_ (hz:=by rw[ha];lia) (_hz':=by rw[Jy,ha];lia));have d:∀ b o,b≠L->h1.get? b=some o->(h1.update L (Obj.mapSeq (·.push (.ref s.heap.objs.size)))).get? b=some o:=λb o hb e=>(JZ _ _ (Ne.symm hb)).trans e;obtain⟨hI,d1,d2,st⟩:=Z1;have I:=Y9 (Obj.mapSeq (·.push (.ref s.heap.objs.size))) p rfl;refine J7 ⟨ZB Wm _,ih (k+1) _ (acc.push (.ref s.heap.objs.size)) _ (by lia) (by rw[Jy,ha]) ⟨d _ _ (Ne.symm LI) hI,G.frame _ _ _ d1 λb hb o e=>d b o (λq=>N (q ▸ hb)) e,W.frame _ _ _ d2 λb hb o e=>d b o (λq=>M (q ▸ hb)) e,?_⟩ (λj v C=>?_) I ?_ (P _ _ _ tk (jn acc s h1 tk x y B Q (by rw[ha];exact X) (by rw[ha];exact py) new f) λc o D e=>d c o (λq=>D (by simp[q])) e) λh' H a l a1 j1 a2 a3 a4=>fin h' H a l a1 j1 a2 a3 λb o hb e=>a4 b o hb ?_⟩
   ·rcases st with ⟨q,_⟩|⟨q,t,l,e,hz⟩
    ·lia
    ·exact .inr ⟨q,t,l,e,d _ _ (Ne.symm E) hz⟩
   ·obtain⟨t,x,y,rfl,h,i,u,p2⟩:=V j v C
    exact⟨t,x,y,rfl,h,d t _ (λq=>h (by simp[q])) i,u,p2⟩
   ·rw[Heap.size_update]
    obtain⟨t,x,y,e,_,i,_,_⟩:=V acc.size _ Array.getElem?_push_size;cases e;exact Zw g (Jc i)
   ·simp only[Jh,Je,Y0,Zn]at hb
    exact d b o hb.2.2.2.2 (f b o (by simp[hb]) e))
theorem zhK {Q:List Value->Shared->Prop}{J:Array Value->Shared->Prop}(S:Sep z TI TO i1 i2 f1 f2) (p:Draws prog w A.in1.in1 i1 f1 n P1 S1) (l:Draws prog w A.in1.in1 i2 f2 n2 P2 S2) (hle:n<=n2) (hz:IsZip s.heap z TI TO .none) (r:IsPair s.heap TI (.ref i1) (.ref i2)) {a b:Value}(k:IsPair s.heap TO a b) (u:S1 0 s.heap) (t:S2 0 s.heap)
  (low:∀ c∈f1++f2,c<s.heap.objs.size) (hn:n<=sizeLine)
  (G:∀ (acc:Array Value) (s':Shared) (h':Heap) tk x y,J acc s'->s.heap.objs.size<s'.heap.objs.size->P1 acc.size x->P2 acc.size y->IsPair h' s'.heap.objs.size x y->(∀ c o,c∉[z,TO,i1,i2]->s'.heap.get? c=some o->h'.get? c=some o)->J (acc.push (.ref s'.heap.objs.size)) { s' with heap:=h',toks:=tk })
  (q:∀ (acc:Array Value) (s':Shared) (h':Heap) tk,J acc s'->(∀ c o,c∉[z,TO,i1,i2,s.heap.objs.size]->s'.heap.get? c=some o->h'.get? c=some o)->J acc { s' with heap:=h',toks:=tk })
  (I:J #[] s)
  (h:∀ h' tk (acc:Array Value),acc.size=n->J acc { s with heap:=h',toks:=tk }->Kept [z,TI,TO,i1,i2,s.heap.objs.size] P1 P2 acc h'->(∀ b o,b∉[z,TO,i1,i2]->s.heap.get? b=some o->h'.get? b=some o)->s.heap.objs.size<h'.objs.size->Q acc.toList { s with heap:=h',toks:=tk }):wpAny (model prog w) A (collect (.ref z)) Q E s:=by
 obtain⟨o1,M⟩:=p.live _ _ u;obtain⟨o2,e2⟩:=l.live _ _ t
 have C:s.heap.objs.size∉[z,TI,TO,i1,i2]++f1++f2:=λm=>by
  simp only[Jx,Jh,Je,Y0]at m;rcases m with ((m|m|m|m|m)|m)|m
  ·exact JT (Jc hz) m
  ·exact JT (Jc r) m
  ·exact JT (Jc k) m
  ·exact JT (Jc M) m
  ·exact JT (Jc e2) m
  ·exact Yz _ (low _ (Ym _ m))
  ·exact Yz _ (low _ (Jz _ m))
 have i:∀ c o,s.heap.get? c=some o->(s.heap.push (seqObj "list" #[] 0)).get? c=some o:=λc o e=>J8 _ e;have f:Shared.TypeIs ({ s with heap:=s.heap.push (seqObj "list" #[] 0) }:Shared) (.ref z) "zip":=⟨_,i _ _ hz,rfl⟩;have new:(s.heap.push (seqObj "list" #[] 0)).get? s.heap.objs.size=some (seqObj "list" #[] 0):=Jt _ rfl;unfold collect;refine J0 (wpAny_runValue (Zk entry_proto_collect' (Z5 F.plain_proto_collect _ ▸ (J0 (wpAny_newList (J7 ⟨Code.quiet_builtin _ (by decide +kernel),Zk entry_list_iadd' (Z5 F.plain_list_iadd _ ▸ ?_)⟩))))));show wpAny _ A.in1 (Builtin.List.listExtendWith (.ref s.heap.objs.size) (.ref z) (.ref s.heap.objs.size)) _ _ ({ s with heap:=s.heap.push (seqObj "list" #[] 0) }:Shared);unfold Builtin.List.listExtendWith;refine J0 (YQ f ?_)
 have no:(Builtin.List.listSameRef (.ref s.heap.objs.size) (.ref z) || Value.type "zip" == Value.type "list" || Value.type "zip" == Value.type "tuple")=false:=by
  have:Builtin.List.listSameRef (.ref s.heap.objs.size) (.ref z)=false:=by simp[Builtin.List.listSameRef,JT (Jc hz)]
  rw[this];decide
 rw[no,Ja Jq];refine J0 (wpAny_pyIter_zip (i _ _ hz) (J0 (Y1 ?_)));unfold Builtin.List.listLengthHint;refine J0 (Zj f zeF ?_);show wpAny _ A.in1 (specialOf (Value.ref z) (Str.ofString "__length_hint__") >>= _) _ _ _;refine J0 (Zj f zdB (J7 ?_));refine J0 (YR (J0 ?_));unfold Builtin.List.listTouch Builtin.List.listUpdate;refine J0 (Za new rfl ?_);have n2:=Y9 (Obj.mapSeq (·.push Value.none)) new rfl;refine Za n2 rfl ?_;have D:=Y9 (Obj.mapSeq (·.pop)) n2 rfl
 have d:∀ b o,s.heap.get? b=some o->(((s.heap.push (seqObj "list" #[] 0)).update s.heap.objs.size (Obj.mapSeq (·.push Value.none))).update s.heap.objs.size (Obj.mapSeq (·.pop))).get? b=some o :=
  λb o e=>by
   have hb:=JT (Jc e);exact(JZ _ _ hb).trans ((JZ _ _ hb).trans (i b o e))
 refine J7 ⟨ZB Wm _,zjB (J:=J) (L:=s.heap.objs.size) S p l hle C hn G q n 0 _ #[] _ (by lia) rfl ⟨d _ _ r,p.frame _ _ _ u λb _ o e=>d b o e,l.frame _ _ _ t λb _ o e=>d b o e,.inl ⟨rfl,d _ _ hz,_,_,d _ _ k⟩⟩ (λj v K=>by simp at K) D ?_ (q #[] s _ s.toks I λc o _ e=>d c o e) λh' tk g R P H O B N=>?_⟩
 ·rw[Heap.size_update,Heap.size_update,size_push']
  exact ZE (Jc k)
 ·refine J0 (wpAny_load B (J7 (h h' tk g P H O (λb o hb e=>N b o (λm=>?_) (d b o e)) (Jc B))))
  simp only[Jh,Je,Y0]at m hb;rcases m with m|m|m|m|m
  ·exact hb (.inl m)
  ·exact hb (.inr (.inl m))
  ·exact hb (.inr (.inr (.inl m)))
  ·exact hb (.inr (.inr (.inr m)))
  ·exact JT (Jc e) m.symm
theorem zj5 {res:Value}{R:Result->Shared->Prop}{J:Array Value->Shared->Prop}{c0:Nat}(S:Sep z TI TO i1 i2 f1 f2) (D:Draws prog w A.in1.in1 i1 f1 n P1 S1) (C:Draws prog w A.in1.in1 i2 f2 n2 P2 S2) (hle:n<=n2) (hz:IsZip s.heap z TI TO .none) (K:IsPair s.heap TI (.ref i1) (.ref i2)) {a b:Value}(u:IsPair s.heap TO a b) (N:S1 0 s.heap) (M:S2 0 s.heap)
  (B:s.heap.get? L=some (seqObj "list" #[] c0)) (l:L∉[z,TI,TO,i1,i2]++f1++f2) (hn:n<=sizeLine)
  (F:∀ (acc:Array Value) (s':Shared) (h':Heap) tk x y,J acc s'->L<s'.heap.objs.size->P1 acc.size x->P2 acc.size y->IsPair h' s'.heap.objs.size x y->(∀ c o,c∉[z,TO,i1,i2]->s'.heap.get? c=some o->h'.get? c=some o)->J (acc.push (.ref s'.heap.objs.size)) { s' with heap:=h',toks:=tk })
  (t:∀ (acc:Array Value) (s':Shared) (h':Heap) tk,J acc s'->(∀ c o,c∉[z,TO,i1,i2,L]->s'.heap.get? c=some o->h'.get? c=some o)->J acc { s' with heap:=h',toks:=tk })
  (H:J #[] s)
  (h:∀ h' tk d k,d.size=n->J d { s with heap:=h',toks:=tk }->Kept [z,TI,TO,i1,i2,L] P1 P2 d h'->h'.get? L=some (seqObj "list" d k)->R (.ok (.ret res)) { s with heap:=h',toks:=tk }) :
  wpAny (model prog w) A.in1 (Builtin.List.listExtendWith (.ref L) (.ref z) res) (λfin s'=>match fin with|.done f=>R (.ok f) s'|.again k=>k.quiet=true/\codeAny (model prog w) A k R s') (λe s'=>R (.error e) s') s:=by
 have T:L≠z:=λq=>l (by simp[q]);have i:s.TypeIs (.ref z) "zip":=⟨_,hz,rfl⟩;unfold Builtin.List.listExtendWith;refine J0 (YQ i ?_)
 have no:(Builtin.List.listSameRef (.ref L) (.ref z) || Value.type "zip" == Value.type "list" || Value.type "zip" == Value.type "tuple")=false:=by
  have:Builtin.List.listSameRef (.ref L) (.ref z)=false:=by simp[Builtin.List.listSameRef,T]
  rw[this];decide
 rw[no,Ja Jq];refine J0 (wpAny_pyIter_zip hz (J0 (Y1 ?_)));unfold Builtin.List.listLengthHint;refine J0 (Zj i zeF ?_);show wpAny _ A.in1 (specialOf (Value.ref z) (Str.ofString "__length_hint__") >>= _) _ _ _;refine J0 (Zj i zdB (J7 ?_));refine J0 (YR (J0 ?_));unfold Builtin.List.listTouch Builtin.List.listUpdate;refine J0 (Za B rfl ?_);have r:=Y9 (Obj.mapSeq (·.push Value.none)) B rfl;refine Za r rfl ?_;have E:=Y9 (Obj.mapSeq (·.pop)) r rfl
 have g:∀ b o,b≠L->s.heap.get? b=some o->((s.heap.update L (Obj.mapSeq (·.push Value.none))).update L (Obj.mapSeq (·.pop))).get? b=some o :=
  λ_ _ away p=>(JZ _ _ (Ne.symm away)).trans ((JZ _ _ (Ne.symm away)).trans p)
 have ne:=λc (m:c∈[z,TI,TO,i1,i2]++f1++f2)=>(λq=>l (q ▸ m):c≠L);refine J7 ⟨ZB Wm _,zjB (J:=J) (L:=L) S D C hle l hn F t n 0 _ #[] _ (by lia) rfl ⟨g _ _ (ne TI (by simp)) K,D.frame _ _ _ N λb hb o e=>g b o (ne b (by simp[hb])) e,C.frame _ _ _ M λb hb o e=>g b o (ne b (by simp[hb])) e,.inl ⟨rfl,g _ _ (ne z (by simp)) hz,_,_,g _ _ (ne TO (by simp)) u⟩⟩ (λj v I=>by simp at I) E ?_ (t #[] s _ s.toks H λc o m e=>g c o (λq=>m (by simp[q])) e) λh' tk d k Q G P O U=>h h' tk d k Q G P O⟩;rw[Heap.size_update,Heap.size_update];exact Jc u
theorem zk0 {Q:Value->Shared->Prop}{J:Array Value->Shared->Prop}(S:Sep z TI TO i1 i2 f1 f2) (i:Draws prog w A.in1.in1.in1 i1 f1 n P1 S1) (g:Draws prog w A.in1.in1.in1 i2 f2 n2 P2 S2) (hle:n<=n2) (hz:IsZip s.heap z TI TO .none) (p:IsPair s.heap TI (.ref i1) (.ref i2)) {a b:Value}(l:IsPair s.heap TO a b) (r:S1 0 s.heap) (q:S2 0 s.heap)
  (low:∀ c∈f1++f2,c<s.heap.objs.size) (hn:n<=sizeLine)
  (B:∀ (acc:Array Value) (s':Shared) (h':Heap) tk x y,J acc s'->s.heap.objs.size<s'.heap.objs.size->P1 acc.size x->P2 acc.size y->IsPair h' s'.heap.objs.size x y->(∀ c o,c∉[z,TO,i1,i2]->s'.heap.get? c=some o->h'.get? c=some o)->J (acc.push (.ref s'.heap.objs.size)) { s' with heap:=h',toks:=tk })
  (k:∀ (acc:Array Value) (s':Shared) (h':Heap) tk,J acc s'->(∀ c o,c∉[z,TO,i1,i2,s.heap.objs.size]->s'.heap.get? c=some o->h'.get? c=some o)->J acc { s' with heap:=h',toks:=tk })
  (D:J #[] s)
  (h:∀ h' tk d f,d.size=n->J d { s with heap:=h',toks:=tk }->Kept [z,TI,TO,i1,i2,s.heap.objs.size] P1 P2 d h'->h'.get? s.heap.objs.size=some (seqObj "list" d f)->Q (.ref s.heap.objs.size) { s with heap:=h',toks:=tk }):wpAny (model prog w) A (call (.type "list") [.ref z]) Q E s:=by
 obtain⟨o1,H⟩:=i.live _ _ r;obtain⟨o2,e2⟩:=g.live _ _ q
 have u:s.heap.objs.size∉[z,TI,TO,i1,i2]++f1++f2:=λm=>by
  simp only[Jx,Jh,Je,Y0]at m;rcases m with ((m|m|m|m|m)|m)|m
  ·exact JT (Jc hz) m
  ·exact JT (Jc p) m
  ·exact JT (Jc l) m
  ·exact JT (Jc H) m
  ·exact JT (Jc e2) m
  ·exact Yz _ (low _ (Ym _ m))
  ·exact Yz _ (low _ (Jz _ m))
 refine callType_codes (Q₁:=λobj t=>obj=.ref s.heap.objs.size/\t={ s with heap:=s.heap.push (seqObj "list" #[] 0) }) F.called_list (F.typeCall_list_1 _) F.entry_list_init (code_list_new _ ⟨rfl,rfl⟩) λobj t G=>?_;obtain⟨rfl,rfl⟩:=G;have new:(s.heap.push (seqObj "list" #[] 0)).get? s.heap.objs.size=some (seqObj "list" #[] 0):=Jt _ rfl;have old:∀ c o,s.heap.get? c=some o->((s.heap.push (seqObj "list" #[] 0)).update s.heap.objs.size (Obj.mapSeq (λ_=>(#[]:Array Value)))).get? c=some o:=λc o e=>(JZ _ _ (JT (Jc e))).trans (J8 _ e);have v:=Y9 (Obj.mapSeq (λ_=>(#[]:Array Value))) new rfl;refine⟨⟨_,new,rfl⟩,F.args_list_init_2 _ _,?_⟩;show wpAny _ _ (do let j <- Builtin.List.listItems (.ref s.heap.objs.size);Builtin.List.listUpdate (.ref s.heap.objs.size) (λ_=>#[]);letGo j.toList.reverse;Builtin.List.listExtendWith (.ref s.heap.objs.size) (.ref z) .none) _ _ _;refine J0 (m:=Builtin.List.listItems _) ?_;unfold Builtin.List.listItems;refine J0 (Y3 new rfl (J7 ?_));refine J0 (m:=updateSeq _ _) (Za new rfl (J0 (Zt ?_)));refine zj5 (A:=A.in1) (J:=J) (L:=s.heap.objs.size) S i g hle (old _ _ hz) (old _ _ p) (old _ _ l) (i.frame _ _ _ r λc _ o e=>old c o e) (g.frame _ _ _ q λc _ o e=>old c o e) v u hn B k (k #[] s _ s.toks D λc o _ e=>old c o e) λh' tk d f M C K I=>?_;exact⟨rfl,h h' tk d f M C K I⟩
end
end Own
namespace Own
open PySem PySem.Spec PyProof.Rows Ts
section
variable {prog:Program}{w:World}{A:Around}{E:Value->Shared->Prop}{s:Shared}
theorem zik {x:Value}{Q:Value->Shared->Prop}
  (h:wpAny (model prog w) A.in1 (collect x) (λvs s1=>∃ (κ:SortKind) (a:Value->Int),vs.length<=10000 /\
   (∀ h':Heap,(∀ c o,s1.heap.get? c=some o->h'.get? c=some o)->2<=vs.length->∀ (b:Around) {Q:SortKind->Shared->Prop}{E:Value->Shared->Prop},Q κ { s1 with heap:=h' }->wpAny (model prog w) b (keyKind' vs.toArray) Q E { s1 with heap:=h' }) /\
   (∀ h':Heap,(∀ c o,s1.heap.get? c=some o->h'.get? c=some o)->∀ (b:Around),b.units<=A.units+8->Cmp prog w b { s1 with heap:=h' } κ (λp=>p.1∈vs) (λp=>a p.1)) /\
   ∀ (h':Heap) (l:Addr) (e:Nat) (out:List Value),s1.heap.objs.size<=l->h'.get? l=some (seqObj "list" out.toArray e)->out.Perm vs->out.Pairwise (λx y=>a x<=a y)->(∀ c o,s1.heap.get? c=some o->h'.get? c=some o)->Q (.ref l) { s1 with heap:=h' }) E s) :
  wpAny (model prog w) A (call (.builtin "sorted") [x]) Q E s:=by
 refine Calls.call_function_entry kind_sorted plain_sorted entry_sorted (args_sorted1 _) ?_;unfold Builtin.«sorted»;refine J0 (m:=checkCount "sorted" 1 1 _) (J7 (J0 (JU h (λvs s1 z=>?_) λ_ _ e=>e)));obtain⟨κ,a,hz,f,i,fin⟩:=z;have sl:vs.length<=sizeLine:=JX hz (by decide);refine J0 (wpAny_newList ?_ (hsz:=sl));have new:(s1.heap.push (seqObj "list" vs.toArray 0)).get? s1.heap.objs.size=some (seqObj "list" vs.toArray 0):=Jt _ rfl;have up:∀ h':Heap,(∀ c o,c≠s1.heap.objs.size->(s1.heap.push (seqObj "list" vs.toArray 0)).get? c=some o->h'.get? c=some o)->∀ c o,s1.heap.get? c=some o->h'.get? c=some o:=λh' k c o e=>k c o (JA (Jc e)) (J8 _ e);refine J0 (Y1 (JV slot_list_sort ⟨_,new,rfl⟩ entry_list_sort (zil new hz κ a (λh' k l2=>f h' (up h' k) l2 _) (λh' k=>i h' (up h' k) _ ?_) λout d p2=>⟨_,rfl,?_⟩) (args_list_sort _)))
 ·show A.units+1+1<=A.units+8
  lia
 obtain⟨e,g⟩:=sortedHeap_at (out:=out.toArray) new;refine J7 ⟨_,rfl,fin _ _ e out (Jg _) g d p2 λc o q=>?_⟩;have lt:=Jc q;rw[sortedHeap_old (JA lt) (by rw[size_push'];exact ZE lt)];exact J8 _ q
end
end Own
namespace L2
open PySem PySem.Spec PyProof.Rows Own Ts
inductive Lx (H:Hp):Nat->V->V->Ordering->Prop where
 | int (n:Nat) (i j:Int):Lx H n (.int i) (.int j) (compare i j)
 | row {n:Nat}{a b:Addr}{xs ys:List V}{cs:List Ordering}(ha:H a=some (.tup xs)) (hb:H b=some (.tup ys)) (l1:xs.length=cs.length) (l2:ys.length=cs.length) (h:∀ (i:Nat) u v c,xs[i]?=some u->ys[i]?=some v->cs[i]?=some c->Lx H n u v c) :
   Lx H (n+1) (.ref a) (.ref b) (cs.foldr Ordering.then .eq)
theorem Lx.pair {H:Hp}{n:Nat}{a b:Addr}{l k j h:V}{f d:Ordering}(ha:H a=some (.tup [l,k])) (hb:H b=some (.tup [j,h])) (h1:Lx H n l j f) (p:Lx H n k h d):Lx H (n+1) (.ref a) (.ref b) (f.then d):=by
 have e:f.then d=[f,d].foldr Ordering.then .eq:=by cases f<;>cases d<;>rfl
 rw[e];refine .row ha hb rfl rfl λi u v c g m o=>?_;rcases i with _|_|i
 ·cases g;cases m;cases o;exact h1
 ·cases g;cases m;cases o;exact p
 ·simp at g
theorem zc1:∀ {cs:List Ordering},cs.foldr Ordering.then .eq=.eq↔∀ c∈cs,c=.eq
 | []=>by simp
 | c::cs=>by
  rw[List.foldr_cons];constructor
  ·intro h
   cases c<;>simp[Ordering.then]at h;intro d hd;rcases Jh.mp hd with rfl|a
   ·rfl
   ·exact zc1.mp h d a
  ·intro h
   rw[h c JC];exact zc1.mpr λd hd=>h d (JB _ hd)
theorem zfy:∀ {cs:List Ordering},cs.foldr Ordering.then .eq≠.eq->∃ (k:Nat) (c:Ordering),cs[k]?=some c/\c≠.eq/\cs.foldr Ordering.then .eq=c/\∀ j:Nat,j<k->cs[j]?=some Ordering.eq
 | [],h=>absurd rfl h
 | c::cs,h=>by
  by_cases z:c=.eq
  ·subst z
   have e:(Ordering.eq::cs).foldr Ordering.then .eq=cs.foldr Ordering.then .eq:=rfl;rw[e]at h ⊢;obtain⟨k,d,h1,g,f,b⟩:=zfy h;refine⟨k+1,d,by simpa using h1,g,f,λj a=>?_⟩
   cases j with
   | zero=>rfl
   | succ j=>simpa using b j (by lia)
  ·refine⟨0,c,rfl,z,?_,λj a=>by lia⟩
   rw[List.foldr_cons];cases c<;>first|rfl|exact absurd rfl z
section
variable {X:Cx}
theorem zb3 (i j:Int):(compare i j == .eq)=decide (i=j)/\(compare i j == .lt)=decide (i<j):=by
 rw[show compare i j=compareOfLessAndEq i j from rfl];unfold compareOfLessAndEq;by_cases h1:i<j
 ·rw[Jf h1,JG h1,Jv (by lia)];exact⟨rfl,rfl⟩
 ·rw[Ja h1,Jv h1]
  by_cases a:i=j
  ·rw[Jf a,JG a];exact⟨rfl,rfl⟩
  ·rw[Ja a,Jv a];exact⟨rfl,rfl⟩
theorem Lx.refl {H:Hp}{n:Nat}{x y:V}{c:Ordering}(h:Lx H n x y c):x=y->c=.eq:=by
 induction h with
 | int n i j =>
  intro e;cases e;have:=(zb3 i i).1;rw[JG rfl]at this
  simpa using this
 | @row n a b xs ys cs ha hb l1 l2 h ih =>
  intro e;cases e;rw[ha]at hb;cases hb;refine zc1.mpr λc d=>?_;obtain⟨i,hi⟩:=YY.mp d;have f:=(J9.mp hi).1;exact ih i _ _ c (J6 (by lia)) (J6 (by lia)) hi rfl
theorem zi6 {pins:List (Addr × Obj)}{σ:St}{H:Hp}{s:Shared}(I:Inv X pins σ H s) {n:Nat}{x y:V}{c:Ordering}(h:Lx H n x y c):∀ (A:Around) (u v:Value),A.units+n<cLine->RelV x u->RelV y v->SeqAt.EqAt A s u v (c == .eq):=by
 induction h with
 | int n i j =>
  intro A u v _ o m;have:=zjD (A:=A) (s:=s) (x:=.int j) (y:=.int i) o m rfl rfl;rw[(zb3 i j).1]
  have e:eqV (.int i) (.int j)=decide (i=j):=by
   show (i == j)=decide (i=j);by_cases z:i=j<;>simp[z]
  rwa [e]at this
 | @row n a b xs ys cs ha hb l1 l2 h ih =>
  intro A u v S o m;cases o;cases m;by_cases D:a=b
  ·subst D
   have:cs.foldr Ordering.then .eq=.eq:=Lx.refl (.row ha hb l1 l2 h) rfl;rw[this];exact SeqAt.EqAt.same _
  ·obtain⟨its,C,K,_⟩:=I.tuple (SqT.of ha)
   obtain⟨f,B,p2,_⟩:=I.tuple (SqT.of hb);have q:=C.length;have p:=B.length;refine SeqAt.EqAt.of_refs D ?_
   have e:((List.range (min its.toArray.size f.toArray.size)).all (λj=>(cs.getD j .eq) == .eq) && its.toArray.size == f.toArray.size)=(cs.foldr Ordering.then .eq == .eq):=by
    rw[Jj,Jj,<- q,<- p,l1,l2,beq_self_eq_true,Bool.and_true,Nat.min_self];by_cases z:cs.foldr Ordering.then .eq=.eq
    ·rw[z]
     refine(Zq.mpr λj O=>?_).trans rfl;have w:=YN.mp O;rw[Jb,J6 w,ZJ,zc1.mp z _ (Yr w)];rfl
    ·obtain⟨k,d,h1,Q,P,_⟩:=zfy z
     have L:=(J9.mp h1).1;rw[P];have f1:(d == Ordering.eq)=false:=by simpa using Q
     rw[f1];refine Bool.eq_false_iff.mpr λt=>?_;have:=Zq.mp t k (YN.mpr L);rw[Jb,h1,ZJ,f1]at this;cases this
   have:=SeqAt.RcAt.tuples (e:=λj=>(cs.getD j .eq) == .eq) K p2 (A:=A) (s:=s) (by lia) (λj N M=>?_)
   ·rwa [e]at this
   ·have l:j<xs.length:=by simpa [q] using N
    have g:j<ys.length:=by simpa [p] using M
    obtain⟨F,R,J⟩:=C.get (J6 l);obtain⟨E,e2,G⟩:=B.get (J6 g);have z1:its.toArray[j]=F:=by simpa using (J9.mp R).2
    have z2:f.toArray[j]=E:=by simpa using (J9.mp e2).2
    have r:j<cs.length:=by lia
    rw[z1,z2,Jb,J6 r,ZJ];exact ih j _ _ _ (J6 l) (J6 g) (J6 r) A.in1 _ _ (by show A.units+1+n<cLine;lia) J G
theorem zmM {pins:List (Addr × Obj)}{σ:St}{H:Hp}{s:Shared}(I:Inv X pins σ H s) {n:Nat}{x y:V}{c:Ordering}(h:Lx H n x y c):c≠.eq->∀ (A:Around) (u v:Value),A.units+n<cLine->RelV x u->RelV y v->LtAt A s u v (c == .lt):=by
 induction h with
 | int n i j =>
  intro _ A u v _ ⟨t1,t⟩ ⟨t2,e2⟩;subst t e2;rw[(zb3 i j).2]
  exact LtAt.ints i j t1 t2
 | @row n a b xs ys cs ha hb l1 l2 h ih =>
  intro ne A u v R g f;cases g;cases f;obtain⟨its,B,K,_⟩:=I.tuple (SqT.of ha);obtain⟨e,z,p2,_⟩:=I.tuple (SqT.of hb);have M:=B.length;have L:=z.length;obtain⟨k,d,h1,w,P,O⟩:=zfy ne;have Q:=(J9.mp h1).1
  have at_:∀ j (r:j<its.toArray.size) (q:j<e.toArray.size),∃ (m:j<xs.length) (l:j<ys.length),RelV xs[j] its.toArray[j]/\RelV ys[j] e.toArray[j]:=λj r q=>by
   have p:j<xs.length:=by simpa [M] using r
   have o:j<ys.length:=by simpa [L] using q
   obtain⟨F,t,J⟩:=B.get (J6 p);obtain⟨E,e2,G⟩:=z.get (J6 o);have z1:its.toArray[j]=F:=by simpa using (J9.mp t).2
   have z2:e.toArray[j]=E:=by simpa using (J9.mp e2).2
   rw[z1,z2];exact⟨p,o,J,G⟩
  rw[P];have D:k<its.toArray.size:=by rw[Jj];lia
  have C:k<e.toArray.size:=by rw[Jj];lia
  obtain⟨m,l,g,f⟩:=at_ k D C;refine LtAt.tuples (k:=k) K p2 (by lia) D C (λj r q N=>?_) ?_ ?_
  ·obtain⟨m,l,g,f⟩:=at_ j r q
   exact zi6 I (h j _ _ _ (J6 m) (J6 l) (O j N)) A.in1 _ _ (by show A.units+1+n<cLine;lia) g f
  ·have:=zi6 I (h k _ _ _ (J6 m) (J6 l) h1) A.in1 _ _ (by show A.units+1+n<cLine;lia) g f
   rwa [show (d == Ordering.eq)=false from by simpa using w]at this
  ·exact ih k _ _ _ (J6 m) (J6 l) h1 w A.in1 _ _ (by show A.units+1+n<cLine;lia) g f
end
def Rk (H:Hp) (xs:List V) (rk:V->Int):Prop:=(∀ x∈xs,∃ i,x=.int i/\rk x=i)\/∃ n,n<=20/\∀ x∈xs,(∃ a f r,x=.ref a/\H a=some (.tup (.int f::r)))/\∀ y∈xs,Lx H n x y (compare (rk x) (rk y))
def vOf:Value->V
 | .int i _=>.int i
 | .ref a=>.ref a
 | _=>.non
theorem zcZ:∀ {xs:List V}{us:List Value},Vals xs us->(∀ x∈xs,(∃ i,x=.int i)\/∃ a,x=.ref a)->xs=us.map vOf/\∀ u∈us,RelV (vOf u) u
 | _,_,.nil,_=>⟨rfl,λu g=>by simp at g⟩
 | x::xs,u::us,.cons r rs,h=>by
  obtain⟨e,f⟩:=zcZ rs λy c=>h y (JB _ c)
  have one:vOf u=x/\RelV (vOf u) u:=by
   rcases h x JC with ⟨i,rfl⟩|⟨a,rfl⟩
   ·obtain⟨t,rfl⟩:=r;exact⟨rfl,t,rfl⟩
   ·cases r;exact⟨rfl,rfl⟩
  refine⟨by rw[Y6,one.1,<- e],λv d=>?_⟩;rcases Jh.mp d with rfl|b
  ·exact one.2
  ·exact f v b
theorem zc0:∀ {us:List Value},(∀ u∈us,RelV (vOf u) u)->Vals (us.map vOf) us
 | [],_=>.nil
 | u::us,h=>.cons (h u JC) (zc0 λv a=>h v (JB _ a))
theorem Rk.kinds {H:Hp}{xs:List V}{rk:V->Int}(h:Rk H xs rk):∀ x∈xs,(∃ i,x=.int i)\/∃ a,x=.ref a:=λx b=>by
 rcases h with h|⟨n,_,h⟩
 ·obtain⟨i,e,_⟩:=h x b;exact .inl ⟨i,e⟩
 ·obtain⟨⟨a,_,_,e,_⟩,_⟩:=h x b;exact .inr ⟨a,e⟩
section
variable {prog:Program}{w:World}{A:Around}{E:Value->Shared->Prop}{s:Shared}
theorem zgG {u v:Value}{b:Bool}{Q:Bool->Shared->Prop}(l:LtAt A s u v b) (h:Q b s):wpAny (model prog w) A (oneLt' false u v) Q E s:=by
 rw[oneLt'_eq,Ja Jq];exact J0 (l prog w _ _ (ZV h))
theorem zmV {Q:Bool->Shared->Prop}(cs:List Ordering):∀ (us vs:List Value) (i:Nat),us.length=cs.length->vs.length=cs.length->(∀ (j:Nat) u v c,us[j]?=some u->vs[j]?=some v->cs[j]?=some c->SeqAt.EqAt A s u v (c == .eq)/\(c≠.eq->LtAt A s u v (c == .lt))) ->
  (i=0->∀ u v c,us[0]?=some u->vs[0]?=some v->cs[0]?=some c->∃ a b t t',u=.int a t/\v=.int b t'/\c=compare a b)->Q (cs.foldr Ordering.then .eq == .lt) s->PySem.W.KatLex prog w A true false Q (us.zip vs) i s:=by
 induction cs with
 | nil =>
  intro us vs i l1 l2 _ _ q;rw[ZU.mp l1]
  exact PySem.W.kat_nil q
 | cons c cs ih =>
  intro us vs i l1 l2 h l q
  obtain⟨u,us,rfl⟩:∃ u g,us=u::g:=by
   cases us with
   | nil=>simp at l1
   | cons u us=>exact⟨u,us,rfl⟩
  obtain⟨v,vs,rfl⟩:∃ v f,vs=v::f:=by
   cases vs with
   | nil=>simp at l2
   | cons v vs=>exact⟨v,vs,rfl⟩
  have k:=h 0 u v c rfl rfl rfl;refine PySem.W.kat_cons (k.1 prog w _ _ ?_);by_cases z:c=.eq
  ·subst z
   refine PySem.W.kat_yes (ih us vs (i+1) (by simpa using l1) (by simpa using l2) (λj u v c r p o=>h (j+1) u v c (by simpa using r) (by simpa using p) (by simpa using o)) (λe=>by lia) q)
  ·have n:(c == Ordering.eq)=false:=by simpa using z
   have e2:(c::cs).foldr Ordering.then .eq=c:=by
    rw[List.foldr_cons];cases c<;>first|rfl|exact absurd rfl z
   rw[e2]at q;rw[n];refine PySem.W.kat_no ?_;by_cases d:i=0
   ·obtain⟨a,b,t,t',rfl,rfl,m⟩:=l d u v c rfl rfl rfl
    subst d;rw[m,(zb3 a b).2]at q;exact oneLt_int q
   ·have:(true && i == 0)=false:=by simpa using d
    rw[this];exact zgG (k.2 z) q
end
section
variable {X:Cx}
theorem asks {pins:List (Addr × Obj)}{σ:St}{H:Hp}{s1:Shared}(I:Inv X pins σ H s1) (s:X.A.units+64<cLine) {xs:List V}{vs:List Value}{rk:V->Int}(r:Vals xs vs) (R:Rk H xs rk) :
  ∃ κ:SortKind,(∀ h':Heap,(∀ c o,s1.heap.get? c=some o->h'.get? c=some o)->2<=vs.length->∀ (l:Around) {Q:SortKind->Shared->Prop}{E:Value->Shared->Prop},Q κ { s1 with heap:=h' }->wpAny (model X.prog X.w) l (keyKind' vs.toArray) Q E { s1 with heap:=h' }) /\
   (∀ h':Heap,(∀ c o,s1.heap.get? c=some o->h'.get? c=some o)->∀ (l:Around),l.units<=X.A.units+8->Cmp X.prog X.w l { s1 with heap:=h' } κ (λp=>p.1∈vs) (λp=>rk (vOf p.1))):=by
 obtain⟨ex,rel⟩:=zcZ r R.kinds;have mem:∀ u∈vs,vOf u∈xs:=λu s=>by rw[ex];exact JH.mpr ⟨u,s,rfl⟩
 rcases R with R|⟨n,hn,R⟩
 ·have z:∀ u∈vs,∃ i t,u=.int i t/\rk (vOf u)=i:=λu s=>by
   obtain⟨i,e,ei⟩:=R _ (mem u s);have ru:=rel u s;rw[e]at ru;obtain⟨t,rfl⟩:=ru;exact⟨i,t,rfl,ei⟩
  refine⟨oneType',λh' k l2 l Q E q=>PySem.W.kas_kind l2 (T:=.type "int") (λv d=>?_) (by decide) (by decide) q,λh' k l _=>⟨λx y O F Q E q=>?_⟩⟩
  ·obtain⟨i,t,rfl,_⟩:=z v d
   exact PySem.W.Looks.of_pure rfl
  ·obtain⟨N,x2⟩:=x
   obtain⟨D,y2⟩:=y;obtain⟨i,t,w,B⟩:=z N O;obtain⟨j,t',e2,S⟩:=z D F;simp only at q;rw[B,S]at q;subst w e2;show wpAny _ _ (keyLt' oneType' (.int i t) (.int j t')) _ _ _;rw[keyLt'_oneType];exact oneLt_int q
 ·refine⟨tuples' (Value.type "int" != Value.type "tuple"),λh' k l2 l Q E q=>?_,λh' k l hA=>⟨λx y O F Q E q=>?_⟩⟩
  ·have C:Inv X pins σ H { s1 with heap:=h',toks:=s1.toks }:=I.kept k
   have kt:∀ us:List Value,(∀ u∈us,vOf u∈xs/\RelV (vOf u) u)->∃ fs,PySem.W.KatTups h' us fs/\fs.length=us.length/\∀ f∈fs,∃ i t,f=Value.int i t:=by
    intro us
    induction us with
    | nil=>intro _;exact⟨[],PySem.W.KatTups.nil,rfl,λf G=>by simp at G⟩
    | cons u us ih =>
     intro h;obtain⟨fs,W,k2,U⟩:=ih λv d=>h v (JB _ d);obtain⟨m1,B⟩:=h u JC;obtain⟨⟨a,f,rr,e,ha⟩,_⟩:=R _ m1;rw[e]at B;cases B;obtain⟨its,g,⟨o,eo,co,no,dt⟩,_⟩:=C.tuple (SqT.of ha);obtain⟨f0,ef,⟨t0,rfl⟩⟩:=g.get (i:=0) (x:=.int f) rfl
     exact⟨_,PySem.W.KatTups.cons eo co dt (by simpa using ef) W,by rw[JW,JW,k2],λf' G=>by
      rcases Jh.mp G with rfl|G
      ·exact⟨_,_,rfl⟩
      ·exact U f' G⟩
   obtain⟨fs,W,k2,U⟩:=kt vs λu s=>⟨mem u s,rel u s⟩;refine PySem.W.kat_kind (T:=.type "int") W (by lia) (λv d=>?_) (by decide) q;obtain⟨i,t,rfl⟩:=U v d;exact PySem.W.Looks.of_pure rfl
  ·have C:Inv X pins σ H { s1 with heap:=h',toks:=s1.toks }:=I.kept k
   obtain⟨N,x2⟩:=x;obtain⟨D,y2⟩:=y;have rx:=rel N O;have ry:=rel D F;obtain⟨⟨a,f,xr,ea,ha⟩,lx⟩:=R _ (mem N O);obtain⟨⟨b,g,yr,eb,hb⟩,_⟩:=R _ (mem D F);have L:=lx _ (mem D F);simp only at q;rw[ea]at rx L q;rw[eb]at ry L q;cases rx;cases ry;generalize hc:compare (rk (V.ref a)) (rk (V.ref b))=c at L;rw[<- (zb3 (rk (V.ref a)) (rk (V.ref b))).2,hc]at q
   cases L with
   | @row n _ _ ag af cs M K l1 l2 hL =>
    rw[ha]at M;cases M;rw[hb]at K;cases K;obtain⟨its,Z,⟨o1,ab,ak,ai,ae⟩,_⟩:=C.tuple (SqT.of ha);obtain⟨J,Y,⟨o2,aa,aj,ah,ad⟩,_⟩:=C.tuple (SqT.of hb);have m1:=Z.length;have m2:=Y.length;show wpAny _ _ (keyLt' (tuples' true) (.ref a) (.ref b)) _ _ _;refine PySem.W.kat_lt ab ae aa ad ?_;have ds:decide (its.toArray.size<J.toArray.size)=false:=Jv (by rw[Jj,Jj];lia);rw[ds];refine zmV cs its J 0 (by lia) (by lia) (λj u v c m d A=>?_) (λ_ u v c m d A=>?_) q
    ·have j1:j<(V.int f::xr).length:=by have:=(J9.mp m).1;lia
     have j2:j<(V.int g::yr).length:=by have:=(J9.mp d).1;lia
     obtain⟨u',w,q1⟩:=Z.get (J6 j1);obtain⟨v',e2,q2⟩:=Y.get (J6 j2);rw[m]at w;obtain rfl:=Js w;rw[d]at e2;obtain rfl:=Js e2;have P:=hL j _ _ c (J6 j1) (J6 j2) A;exact⟨zi6 C P l _ _ (by lia) q1 q2,λne=>zmM C P ne l _ _ (by lia) q1 q2⟩
    ·obtain⟨u',w,t1,B⟩:=Z.get (i:=0) (x:=.int f) rfl
     obtain⟨v',e2,t2,S⟩:=Y.get (i:=0) (x:=.int g) rfl;rw[m]at w;obtain rfl:=Js w;rw[d]at e2;obtain rfl:=Js e2;have P:=hL 0 (.int f) (.int g) c rfl rfl A;cases P;exact⟨f,g,t1,t2,B,S,rfl⟩
end
def Zip2 (H:Hp) (ts xs ys:List V):Prop:=ts.length=xs.length/\∀ (i:Nat) t,ts[i]?=some t->∃ a x y,t=.ref a/\xs[i]?=some x/\ys[i]?=some y/\H a=some (.tup [x,y])
def zkb (K:PySem.W.Frag) (e d:Bool) (ta:TA):TE:=λσ H Q=>ta σ H λvs H1=>∃ c b xs ys,vs=[.ref c,.ref b]/\SqB e K H1 c xs/\SqB d K H1 b ys/\ys.length=xs.length/\xs.length<=10000 /\
 ∀ ts a,Same H1 a->Zip2 a ts xs ys->∃ rk,Rk a ts rk/\∀ l zs,a l=none->zs.Perm ts->zs.Pairwise (λx y=>rk x<=rk y)->Q (.ref l) (upd a l (.lst zs))
theorem zhm {X:Cx}{a b:Expr}{ta:TA}{p p2 pos f:Pos}(b1 U:Bool) (hg:Gl X "sorted") (hm:X.mg "sorted" = none) (ar:Gl X "zip") (aq:X.mg "zip" = none) (d:X.calm=true) (hu:X.A.units+64<cLine) (ha:PA X [a,b] ta)
  (he:starEach [Expr.Call (.Name "zip" p2) [a,b] [] f] X.env=[(false,eval (Expr.Call (.Name "zip" p2) [a,b] [] f) X.env)]:=by rfl)
  (hs:starEach [a,b] X.env=[(false,eval a X.env),(false,eval b X.env)]:=by rfl) (ae:starEach [b] X.env=[(false,eval b X.env)]:=by rfl) :
  PE X (.Call (.Name "sorted" p) [.Call (.Name "zip" p2) [a,b] [] f] [] pos) (zkb X.K b1 U ta):=by
 intro pins s σ H Q I h;refine Ze (zbA I hg hm (u:=.builtin "sorted") (by rfl) (PyProof.Rows.callWith_builtin1 ?_ he rfl));rw[he];show wpAny _ _ (spliced ((false,eval (Expr.Call (.Name "zip" p2) [a,b] [] f) X.env)::[])) _ _ s;refine Zu ?_;refine Call_ (zbA I ar aq (u:=.type "zip") (by rfl) (Yk (thn (ha f pins s σ H _ I h) λus s1 ⟨vs,H1,B,r1,q1⟩=>?_) (by rw[hs,ae]) (by rw[ae];rfl)));obtain⟨P,O,xs,ys,rfl,ag,af,hl,hz,q⟩:=q1;obtain⟨u,v,rfl,ru,rv⟩:=r1.two;cases ru;cases rv;obtain⟨its,rx,Y⟩:=B.sq ag;obtain⟨j,ry,W⟩:=B.sq af;have lx:=rx.length;have ly:=ry.length;refine callType_new F.called_zip (by decide) (F.typeCall_zip_2 _ _) (F.newCall_zip_2 _ _) (λobj=>F.args_object_init_3 obj _ _) F.entry_zip_new (zfv b1 U P O its.toArray j.toArray) ⟨Y,W,λh' z ⟨TI,TO,i1,i2,nd,ai,k,hI,hO,h1,T⟩ hk=>⟨⟨_,k,rfl⟩,?_⟩⟩;refine ZW ?_;have I2:Inv X pins σ H1 { s1 with heap:=h',toks:=s1.toks }:=B.kept hk;have fp:∀ c∈[z,TI,TO,i1,i2],FpOk X pins H1 c:=λc d=>B.fpOk (ai c d) (B.hok.fresh (ai c d));have G:∀ c∈[z,TI,TO,i1,i2],c≠P:=λc hm=>B.sq_ne ag (fp c hm);have E:∀ c∈[z,TI,TO,i1,i2],c≠O:=λc hm=>B.sq_ne af (fp c hm);have Z:=nd;simp only[JJ,Jh,Je,Y0,Zn]at Z;obtain⟨⟨zI,zO,z1,z2⟩,⟨IO,ax,aw⟩,⟨O1,O2⟩,ab,_⟩:=Z;have S:Sep z TI TO i1 i2 [i1,P] [i2,O]:=⟨nd,by simp[z1,G z (by simp)],by simp[O1,G TO (by simp)],by simp[Ne.symm ab,G i2 (by simp)],by simp[z2,E z (by simp)],by simp[O2,E TO (by simp)],by simp[ab,E i1 (by simp)]⟩;have hd:=B.ok.hd d;have D:SqO b1 h' P its.toArray:=Y.mv λo e=>hk _ _ e;have C:SqO U h' O j.toArray:=W.mv λo e=>hk _ _ e;have aa:its.toArray.size=j.toArray.size:=by rw[Jj,Jj];lia
 have D1:=draws (prog:=X.prog) (w:=X.w) (A:=X.A.in1.in1.in1) hd b1 i1 P its.toArray (D.ne h1);have D2:=draws (prog:=X.prog) (w:=X.w) (A:=X.A.in1.in1.in1) hd U i2 O j.toArray (C.ne T);rw[<- aa]at D2
 have low:∀ c∈[i1,P]++[i2,O],c<h'.objs.size:=λc d=>by
  obtain⟨o1,n1,e1,_⟩:=D.ob;obtain⟨o2,n2,e2,_⟩:=C.ob;simp only[List.cons_append,Zy,Jh,Je,Y0]at d;rcases d with rfl|rfl|rfl|rfl
  ·exact Jc h1
  ·exact Jc e1
  ·exact Jc T
  ·exact Jc e2
 have au:FpOk X pins H1 h'.objs.size:=I2.fpOk (Jg _) (I2.hok.fresh (Jg _))
 have lows:∀ c∈[z,TO,i1,i2],c<h'.objs.size:=λc d=>by
  simp only[Jh,Je,Y0]at d;rcases d with rfl|rfl|rfl|rfl
  ·exact Jc k
  ·exact Jc hO
  ·exact Jc h1
  ·exact Jc T
 refine zik (zhK (J:=λacc s'=>∃ (ts:List Addr) (g:Hp),Inv X pins σ g s'/\Same H1 g/\acc.toList=ts.map Value.ref/\(∀ (i:Nat) t,ts[i]?=some t->∃ x y,xs[i]?=some x/\ys[i]?=some y/\g t=some (.tup [x,y]))/\(∀ c∈[z,TO,i1,i2,h'.objs.size],FpOk X pins g c)) S D1 D2 (Jg _) k hI hO ⟨h1,D⟩ ⟨T,C⟩ low ?_ ?_ ?_ ?_ ?_)
 ·rw[Jj];exact JX (show _<=10000 by lia) (by decide)
 ·rintro acc s' ah tk x y ⟨ts,g,r,R,n,N,fk⟩ lt px py new kk
  have il:acc.size<xs.length:=by
   have b:acc.size<its.toArray.size:=(JK.mp px).1;have U:its.toArray.size=its.length:=Jj ..;lia
  obtain⟨u,e1,r1⟩:=rx.get (J6 il);obtain⟨v,e2,r2⟩:=ry.get (J6 (show acc.size<ys.length by lia));have ao:its[acc.size]?=some x:=by simpa using px
  have aj:j[acc.size]?=some y:=by simpa using py
  rw[ao]at e1;obtain rfl:=Js e1;rw[aj]at e2;obtain rfl:=Js e2
  have nT:∀ c∈[z,TO,i1,i2,h'.objs.size],c≠s'.heap.objs.size:=λc d=>by
   simp only[Jh,Je,Y0]at d;rcases d with rfl|rfl|rfl|rfl|rfl
   ·exact JA (Zw (Jc k) lt)
   ·exact JA (Zw (Jc hO) lt)
   ·exact JA (Zw (Jc h1) lt)
   ·exact JA (Zw (Jc T) lt)
   ·exact JA lt
  have av:∀ c∈[z,TO,i1,i2],FpOk X pins g c:=λc d=>fk c (by simp only[Jh,Je,Y0]at d ⊢;rcases d with m|m|m|m<;>simp[m]);have fr:g s'.heap.objs.size=none:=r.fresh;have al:acc.size=ts.length:=by rw[<- Ju,n,Jm]
  refine⟨ts++[s'.heap.objs.size],_,r.spunN (fp:=[z,TO,i1,i2]) kk av (Jg _) (zde new r1 r2),R.trans (zac fr _),by rw[Z7,n,JN];rfl,λi t hi=>?_,λc d=>⟨by rw[zag (nT c d)];exact(fk c d).1,(fk c d).2⟩⟩;by_cases q:i<ts.length
  ·rw[Yj q]at hi
   obtain⟨x',y',M,L,K⟩:=N i t hi;exact⟨x',y',M,L,zac fr _ _ _ K⟩
  ·have ad:=(J9.mp hi).1
   rw[Jn]at ad;have ap:i=ts.length:=by simp at ad;lia
   subst ap;rw[Yg (Jg _),Nat.sub_self]at hi;obtain rfl:s'.heap.objs.size=t:=by simpa using hi
   rw[<- al];exact⟨_,_,J6 il,J6 (show acc.size<ys.length by lia),zab⟩
 ·rintro acc s' ah tk ⟨ts,g,r,R,n,N,fk⟩ kk
  exact⟨ts,g,r.spun (fp:=[z,TO,i1,i2,h'.objs.size]) kk fk,R,n,N,fk⟩
 ·refine⟨[],H1,I2,Same.refl _,rfl,λi t hi=>by simp at hi,λc d=>?_⟩
  simp only[Jh,Je,Y0]at d;rcases d with rfl|rfl|rfl|rfl|rfl
  ·exact fp _ (by simp)
  ·exact fp _ (by simp)
  ·exact fp _ (by simp)
  ·exact fp _ (by simp)
  ·exact au
 ·rintro ah tk acc hn ⟨ts,g,r,R,n,N,fk⟩ _ kk lt
  have tl:ts.length=xs.length:=by
   have:acc.toList.length=ts.length:=by rw[n,Jm]
   rw[Ju,hn,Jj]at this;lia
  obtain⟨rk,Rr,fin⟩:=q (ts.map V.ref) g R ⟨by rw[Jm];exact tl,λi t hi=>by
   rw[JL]at hi;obtain⟨t',e',rfl⟩:=Y8.mp hi;obtain⟨x,y,M,L,K⟩:=N i t' e'
   exact⟨t',x,y,rfl,M,L,K⟩⟩
  have vr:Vals (ts.map V.ref) acc.toList:=by
   rw[n];clear N n tl Rr fin
   induction ts with
   | nil=>exact .nil
   | cons t ts ih=>exact .cons rfl ih
  obtain⟨κ,ak,ac⟩:=asks r hu vr Rr;refine⟨κ,λu=>rk (vOf u),by rw[Ju,hn,Jj];lia,ak,ac,λh3 l e out lo eo pm so k3=>?_⟩;obtain⟨ex,rel⟩:=zcZ vr Rr.kinds;have vo:Vals (out.map vOf) out:=zc0 λu hu=>rel u (pm.mem_iff.mp hu);refine⟨.ref l,_,r.laid (t':=tk) (o:=.lst (out.map vOf)) k3 lo ⟨?_,out,e,vo,eo⟩,rfl,fin l _ (r.hok.fresh lo) ?_ ?_⟩
  ·rw[Jm,pm.length_eq,Ju,hn,Jj];exact JX (show _<=10000 by lia) (by decide)
  ·rw[ex];exact pm.map vOf
  ·exact List.pairwise_map.mpr so
section
variable {X:Cx}{pins:List (Addr × Obj)}{σ:St}{H:Hp}{s:Shared}
theorem Inv.adopt {T:Addr}{o:HO}(I:Inv X pins σ H s) (a:FpOk X pins H T) (new:ObjOk X.prog X.w (upd H T o) s.heap T o):Inv X pins σ (upd H T o) s:=by
 have hn:=a.1
 have J:Inv X pins σ (upd H T o) { s with heap:=s.heap,gens:=s.gens,drawn:=s.drawn,toks:=s.toks }:=by
  refine I.step (ch:=[T]) (λb hb=>?_) (λb u _ _ _ e _=>e) (λb u _ _ _ e _=>⟨u.slots,e⟩) (λb u d _ n=>by rw[zag λq=>d (Jd.mpr q)];exact n)
   (λb u _ e=>⟨u,e⟩) (λb xs e=>by rw[zag (zae e hn)];exact e) (λb u x e=>by rw[zag (zae e hn)];exact e) (λb ps e=>⟨#[],by rw[zag (zae e hn),e];simp⟩) (λm hm=>hm) (λb u e=>?_) I.bare
  ·have only:=Jd.mp hb
   subst only;exact⟨a.2.2.2.1,a.2.1,a.2.2.2.2.1,a.2.2.2.2.2⟩
  ·by_cases hb:b=T
   ·subst hb;rw[zab]at e;cases e;exact new
   ·rw[zag hb]at e
    exact(I.hok b u e).stay (λc v _ q=>q) (λc q=>by rw[zag (zae q hn)];exact q) λc xs q=>by rw[zag (zae q hn)];exact q
 exact J
end
def zlT (K:PySem.W.Frag) (e d:Bool) (ta:TA):TE:=λσ H Q=>ta σ H λvs H1=>∃ c b xs ys,vs=[.ref c,.ref b]/\SqB e K H1 c xs/\SqB d K H1 b ys/\xs.length<=ys.length/\xs.length<=10000 /\
 ∀ l ts a,Same H1 a->H1 l=none->a l=none->Zip2 a ts xs ys->Q (.ref l) (upd a l (.lst ts))
theorem zeU {X:Cx}{a b:Expr}{ta:TA}{p p2 pos f:Pos}(b1 M:Bool) (hg:Gl X "list") (hm:X.mg "list" = none) (ao:Gl X "zip") (ak:X.mg "zip" = none) (d:X.calm=true) (ha:PA X [a,b] ta)
  (he:starEach [Expr.Call (.Name "zip" p2) [a,b] [] f] X.env=[(false,eval (Expr.Call (.Name "zip" p2) [a,b] [] f) X.env)]:=by rfl)
  (hs:starEach [a,b] X.env=[(false,eval a X.env),(false,eval b X.env)]:=by rfl) (ab:starEach [b] X.env=[(false,eval b X.env)]:=by rfl) :
  PE X (.Call (.Name "list" p) [.Call (.Name "zip" p2) [a,b] [] f] [] pos) (zlT X.K b1 M ta):=by
 intro pins s σ H Q I h;refine Ze (zbA I hg hm (u:=.type "list") (by rfl) (Yk ?_ he rfl));rw[he];refine Zu ?_;refine Call_ (zbA I ao ak (u:=.type "zip") (by rfl) (Yk (thn (ha f pins s σ H _ I h) λus s1 ⟨vs,H1,k,r1,q1⟩=>?_) (by rw[hs,ab]) (by rw[ab];rfl)));obtain⟨O,N,xs,ys,rfl,ae,ad,hl,hz,q⟩:=q1;obtain⟨u,v,rfl,ru,rv⟩:=r1.two;cases ru;cases rv;obtain⟨its,rx,W⟩:=k.sq ae;obtain⟨j,ry,U⟩:=k.sq ad;have lx:=rx.length;have ly:=ry.length;refine callType_new F.called_zip (by decide) (F.typeCall_zip_2 _ _) (F.newCall_zip_2 _ _) (λobj=>F.args_object_init_3 obj _ _) F.entry_zip_new (zfv b1 M O N its.toArray j.toArray) ⟨W,U,λh' z ⟨TI,TO,i1,i2,nd,ag,E,hI,hO,h1,h2⟩ hk=>⟨⟨_,E,rfl⟩,?_⟩⟩;refine ZW ?_;have I2:Inv X pins σ H1 { s1 with heap:=h',toks:=s1.toks }:=k.kept hk;have fp:∀ c∈[z,TI,TO,i1,i2],FpOk X pins H1 c:=λc d=>k.fpOk (ag c d) (k.hok.fresh (ag c d));have D:∀ c∈[z,TI,TO,i1,i2],c≠O:=λc hm=>k.sq_ne ae (fp c hm);have C:∀ c∈[z,TI,TO,i1,i2],c≠N:=λc hm=>k.sq_ne ad (fp c hm);have Y:=nd;simp only[JJ,Jh,Je,Y0,Zn]at Y;obtain⟨⟨zI,zO,z1,z2⟩,⟨IO,aw,av⟩,⟨O1,O2⟩,Z,_⟩:=Y;have S:Sep z TI TO i1 i2 [i1,O] [i2,N]:=⟨nd,by simp[z1,D z (by simp)],by simp[O1,D TO (by simp)],by simp[Ne.symm Z,D i2 (by simp)],by simp[z2,C z (by simp)],by simp[O2,C TO (by simp)],by simp[Z,C i1 (by simp)]⟩;have hd:=k.ok.hd d;have B:SqO b1 h' O its.toArray:=W.mv λo e=>hk _ _ e;have r:SqO M h' N j.toArray:=U.mv λo e=>hk _ _ e;have D1:=draws (prog:=X.prog) (w:=X.w) (A:=X.A.in1.in1.in1) hd b1 i1 O its.toArray (B.ne h1);have D2:=draws (prog:=X.prog) (w:=X.w) (A:=X.A.in1.in1.in1) hd M i2 N j.toArray (r.ne h2)
 have low:∀ c∈[i1,O]++[i2,N],c<h'.objs.size:=λc d=>by
  obtain⟨o1,n1,L,_⟩:=B.ob;obtain⟨o2,n2,e2,_⟩:=r.ob;simp only[List.cons_append,Zy,Jh,Je,Y0]at d;rcases d with rfl|rfl|rfl|rfl
  ·exact Jc h1
  ·exact Jc L
  ·exact Jc h2
  ·exact Jc e2
 have af:FpOk X pins H1 h'.objs.size:=I2.fpOk (Jg _) (I2.hok.fresh (Jg _));refine zk0 (J:=λacc s'=>∃ (ts:List Addr) (g:Hp),Inv X pins σ g s'/\Same H1 g/\acc.toList=ts.map Value.ref/\(∀ (i:Nat) t,ts[i]?=some t->∃ x y,xs[i]?=some x/\ys[i]?=some y/\g t=some (.tup [x,y]))/\(∀ c∈[z,TO,i1,i2,h'.objs.size],FpOk X pins g c)) S D1 D2 (by rw[Jj,Jj];lia) E hI hO ⟨h1,B⟩ ⟨h2,r⟩ low ?_ ?_ ?_ ?_ ?_
 ·rw[Jj];exact JX (show _<=10000 by lia) (by decide)
 ·rintro acc s' G tk x y ⟨ts,g,P,R,n,T,fk⟩ lt px py new kk
  have il:acc.size<xs.length:=by
   have b:acc.size<its.toArray.size:=(JK.mp px).1;have M:its.toArray.size=its.length:=Jj ..;lia
  obtain⟨u,L,r1⟩:=rx.get (J6 il);obtain⟨v,e2,r2⟩:=ry.get (J6 (show acc.size<ys.length by lia));have ai:its[acc.size]?=some x:=by simpa using px
  have ah:j[acc.size]?=some y:=by simpa using py
  rw[ai]at L;obtain rfl:=Js L;rw[ah]at e2;obtain rfl:=Js e2
  have nT:∀ c∈[z,TO,i1,i2,h'.objs.size],c≠s'.heap.objs.size:=λc d=>by
   simp only[Jh,Je,Y0]at d;rcases d with rfl|rfl|rfl|rfl|rfl
   ·exact JA (Zw (Jc E) lt)
   ·exact JA (Zw (Jc hO) lt)
   ·exact JA (Zw (Jc h1) lt)
   ·exact JA (Zw (Jc h2) lt)
   ·exact JA lt
  have ap:∀ c∈[z,TO,i1,i2],FpOk X pins g c:=λc d=>fk c (by simp only[Jh,Je,Y0]at d ⊢;rcases d with m|m|m|m<;>simp[m]);have fr:g s'.heap.objs.size=none:=P.fresh;have al:acc.size=ts.length:=by rw[<- Ju,n,Jm]
  refine⟨ts++[s'.heap.objs.size],_,P.spunN (fp:=[z,TO,i1,i2]) kk ap (Jg _) (zde new r1 r2),R.trans (zac fr _),by rw[Z7,n,JN];rfl,λi t hi=>?_,λc d=>⟨by rw[zag (nT c d)];exact(fk c d).1,(fk c d).2⟩⟩;by_cases q:i<ts.length
  ·rw[Yj q]at hi
   obtain⟨x',y',au,ar,aq⟩:=T i t hi;exact⟨x',y',au,ar,zac fr _ _ _ aq⟩
  ·have aa:=(J9.mp hi).1
   rw[Jn]at aa;have aj:i=ts.length:=by simp at aa;lia
   subst aj;rw[Yg (Jg _),Nat.sub_self]at hi;obtain rfl:s'.heap.objs.size=t:=by simpa using hi
   rw[<- al];exact⟨_,_,J6 il,J6 (show acc.size<ys.length by lia),zab⟩
 ·rintro acc s' G tk ⟨ts,g,P,R,n,T,fk⟩ kk
  exact⟨ts,g,P.spun (fp:=[z,TO,i1,i2,h'.objs.size]) kk fk,R,n,T,fk⟩
 ·refine⟨[],H1,I2,Same.refl _,rfl,λi t hi=>by simp at hi,λc d=>?_⟩
  simp only[Jh,Je,Y0]at d;rcases d with rfl|rfl|rfl|rfl|rfl
  ·exact fp _ (by simp)
  ·exact fp _ (by simp)
  ·exact fp _ (by simp)
  ·exact fp _ (by simp)
  ·exact af
 ·rintro G tk acc c' an ⟨ts,g,P,R,n,T,fk⟩ K a3
  have fL:=fk h'.objs.size (by simp)
  have tl:ts.length=xs.length:=by
   have:acc.size=ts.length:=by rw[<- Ju,n,Jm]
   have M:its.toArray.size=its.length:=Jj ..;lia
  have vals:∀ l:List Addr,Vals (l.map V.ref) (l.map Value.ref):=λl=>by
   induction l with
   | nil=>exact .nil
   | cons x l ih=>exact .cons rfl ih
  have new:ObjOk X.prog X.w (upd g h'.objs.size (.lst (ts.map V.ref))) G h'.objs.size (.lst (ts.map V.ref)):=⟨by rw[Jm,tl];exact JX hz (by decide),ts.map Value.ref,c',vals ts,by rw[a3,<- n]⟩;refine⟨.ref _,_,P.adopt fL new,rfl,q h'.objs.size (ts.map V.ref) g R af.1 fL.1 ⟨by rw[Jm];exact tl,λi t hi=>?_⟩⟩;rw[JL]at hi;obtain⟨t',et,rfl⟩:=Y8.mp hi;obtain⟨x,y,L,e2,e3⟩:=T i t' et;exact⟨t',x,y,rfl,L,e2,e3⟩
end L2
namespace L2
open PySem PySem.Spec PyProof.Rows Own
section
variable {X:Cx}{pins:List (Addr × Obj)}{σ:St}{H:Hp}{s:Shared}{d:Addr}
theorem Inv.reword {u v:HO}(I:Inv X pins σ H s) (hd:H d=some u) (g:∀ xs,u≠.tup xs) (nb:∀ ps,u≠.tbl ps) (no:∀ a,u≠.own a) (k:∀ o' h,X.H₀ d≠some (.frz o' h)) (new:ObjOk X.prog X.w (upd H d v) s.heap d v):Inv X pins σ (upd H d v) s:=by
 have ne:∀ {b},H b=none->b≠d:=λe z=>by rw[z,hd]at e;cases e
 have f:∀ {b} {q:HO},H b=some q->q≠u->upd H d v b=some q:=λ{b q} e n=>by
  rw[zag];· exact e
  ·intro z
   rw[z,hd]at e;exact n (Js e).symm
 refine⟨I.ok,I.os,I.bare,⟨I.base.keep,I.base.slot,λb q e n l=>?_,I.base.there,λb xs e=>f (I.base.tups b xs e) λz=>g xs z.symm,λb q w e=>?_,λb ps e=>?_⟩,I.loc,I.cell,?_,λx c e=>?_,λp m=>?_,λb q e=>?_,I.len⟩
 ·have z:=I.base.free b q e n l
  rw[zag (ne z)];exact z
 ·rw[zag]
  ·exact I.base.frzs b q w e
  ·rintro rfl;exact k q w e
 ·obtain⟨more,z⟩:=I.base.tbls b ps e
  exact⟨more,f z λq=>nb _ q.symm⟩
 ·rw[zag (ne I.free)];exact I.free
 ·have z:=I.freeC x c e
  rw[zag (ne z)];exact z
 ·obtain⟨j,p2,i⟩:=I.pin p m
  exact⟨j,by rw[zag (ne p2)];exact p2,i⟩
 ·by_cases z:b=d
  ·subst z
   rw[zab]at e;cases e;exact new
  ·rw[zag z]at e
   exact(I.hok b q e).stay (λc w _ r=>r) (λc r=>f r λz=>no _ z.symm) λc xs r=>f r λz=>g _ z.symm
end
def NIv (H:Hp):KI->V->Prop
 | .inl i,v=>v=.int i
 | .inr xs,v=>∃ b,v=.ref b/\H b=some (.tup (xs.map V.int))
def NIvs (H:Hp):KN->List V->Prop
 | [],vs=>vs=[]
 | k::ks,vs=>∃ v r,vs=v::r/\NIv H k v/\NIvs H ks r
def NKey (H:Hp) (k:KN) (b:Addr):Prop:=∃ ys,H b=some (.tup ys)/\NIvs H k ys
theorem NIvs.tups {H H':Hp}(t:∀ b ys,H b=some (.tup ys)->H' b=some (.tup ys)):∀ {k:KN}{ys:List V},NIvs H k ys->NIvs H' k ys
 | [],_,h=>h
 | .inl i::k,_,h=>by
  obtain⟨v,r,e,h1,a⟩:=h
  exact⟨v,r,e,h1,NIvs.tups t a⟩
 | .inr xs::k,_,h=>by
  obtain⟨v,r,e,⟨b,h1,c⟩,a⟩:=h;exact⟨v,r,e,⟨b,h1,t _ _ c⟩,NIvs.tups t a⟩
theorem NKey.tups {H H':Hp}(t:∀ b ys,H b=some (.tup ys)->H' b=some (.tup ys)) {k:KN}{b:Addr}(h:NKey H k b):NKey H' k b:=by
 obtain⟨ys,h1,a⟩:=h;exact⟨ys,t _ _ h1,a.tups t⟩
section
variable {P:Program}{w:World}{H:Hp}{h:Heap}
theorem zgK (ok:HOk P w H h):∀ {k:KN}{ys:List V}{its:List Value},NIvs H k ys->Vals ys its->NIts P w h k its
 | [],_,its,a,r=>by
  rw[show _=[] from a]at r
  cases r;rfl
 | k::ks,_,its,a,r=>by
  obtain⟨v,q,rfl,d,f⟩:=a
  cases r with
  | @cons _ u _ us c r =>
   refine⟨u,us,rfl,?_,zgK ok f r⟩
   cases k with
   | inl i=>rw[show v=.int i from d]at c;exact c
   | inr xs =>
    obtain⟨b,rfl,hb⟩:=d;refine⟨b,c,?_⟩;have e:xs.map V.int=(xs.map (Sum.inl:Int->Key)).map kV:=by rw[Zv];rfl
    rw[e]at hb;exact znS ok hb
theorem zdh (ok:HOk P w H h) {k:KN}{b:Addr}(a:NKey H k b):NIs P w h k b:=by
 obtain⟨ys,hb,a⟩:=a;obtain⟨_,its,r,o,h1,d,n,c⟩:=(show ObjOk P w H h b (.tup ys) from ok b _ hb);exact⟨o,its.toArray,n,h1,d,c.1,by simpa using zgK ok a r⟩
end
abbrev KVN:=List (KN × Addr × V)
def PrN:KN × Addr × V->KN × Addr × Value->Prop:=λp q=>p.1=q.1/\p.2.1=q.2.1/\RelV p.2.2 q.2.2
def valN (xs:KVN) (k:KN):Option V:=(xs.find? λx=>decide (x.1=k)).map (·.2.2)
def putN (xs:KVN) (k:KN) (b:Addr) (v:V):KVN:=if (valN xs k).isSome then xs.map λx=>if x.1=k then (x.1,x.2.1,v) else x else xs++[(k,b,v)]
theorem zd1 {xs:KVN}{vs:List (KN × Addr × Value)}(r:Paired PrN xs vs) (k:KN):RelO (valN xs k) ((atKey vs k).map (·.2)):=by
 induction r with
 | nil=>exact True.intro
 | @cons p q ps a h t ih =>
  unfold valN atKey at ih ⊢;rw[YW,YW,h.1];by_cases c:q.1=k
  ·rw[JG c];exact h.2.2
  ·rw[Jv c];exact ih
theorem zkl {xs:KVN}{vs:List (KN × Addr × Value)}(r:Paired PrN xs vs) (k:KN) {v:V}{u:Value}(a:RelV v u):Paired PrN (xs.map λx=>if x.1=k then (x.1,x.2.1,v) else x) (vs.map (putAt k u)):=by
 induction r with
 | nil=>exact .nil
 | @cons p q ps b h t ih =>
  refine .cons ?_ ih;unfold putAt;dsimp only;by_cases c:q.1=k
  ·rw[Jf (h.1.trans c),Jf c];exact⟨h.1,h.2.1,a⟩
  ·rw[Ja (λz=>c (h.1.symm.trans z)),Ja c];exact h
theorem putN_rel {xs:KVN}{vs:List (KN × Addr × Value)}(r:Paired PrN xs vs) (k:KN) (b:Addr) {v:V}{u:Value}(a:RelV v u):Paired PrN (putN xs k b v) (storedH vs k b u):=by
 have e:=(zd1 r k).isSome_eq;rw[Option.isSome_map]at e;unfold putN storedH;rw[<- e];by_cases c:(valN xs k).isSome=true
 ·rw[Jf c,Jf c];exact zkl r k a
 ·rw[Ja c,Ja c];exact Paired.snoc r ⟨rfl,rfl,a⟩
theorem zgA (xs:KVN) (k:KN) (b:Addr) (v:V):(putN xs k b v).length<=xs.length+1:=by
 unfold putN;split
 ·rw[Jm];lia
 ·rw[Jn];exact Jg _
def PhN (P:Program) (w:World) (a:Addr) (xs:KVN):Heap->Prop:=λh=>xs.length<=sizeLine/\(a == sysModules)=false/\∃ vs,Paired PrN xs vs /\
 ∃ o es ep,h.get? a=some o/\o.ExactDict/\o.data=.dict es ep/\es.toList=vs.map (entryOfKey (zbo P w))/\(vs.map (·.1)).Nodup
def DN (P:Program) (w:World) (a:Addr) (xs:KVN):HO:=.ext (PhN P w a xs)
def KsIn (H:Hp) (xs:KVN):Prop:=∀ x∈xs,NKey H x.1 x.2.1
theorem KsIn.tups {H H':Hp}{xs:KVN}(t:∀ b ys,H b=some (.tup ys)->H' b=some (.tup ys)) (h:KsIn H xs):KsIn H' xs:=λx a=>(h x a).tups t
section
variable {P:Program}{w:World}{H H':Hp}{h h':Heap}{a:Addr}{xs:KVN}
theorem dn_new (z:xs.length<=sizeLine) (hd:(a == sysModules)=false) {vs:List (KN × Addr × Value)}(r:Paired PrN xs vs) (d:h'.DictOfH (zbo P w) a vs):ObjOk P w H' h' a (DN P w a xs):=by
 obtain⟨o,es,ep,h1,f,e,c,_,b⟩:=d;refine⟨⟨z,hd,vs,r,o,es,ep,h1,f,e,c,b⟩,⟨o,h1⟩,λh g ⟨z,hd,vs,r,o,es,ep,h1,f,e,c,b⟩ s=>⟨z,hd,vs,r,o,es,ep,s o h1,f,e,c,b⟩⟩
theorem zgc (ok:HOk P w H h) (e:Rd H a (DN P w a xs)) (ks:KsIn H xs):xs.length<=sizeLine/\(a == sysModules)=false/\∃ vs,Paired PrN xs vs/\h.DictOfH (zbo P w) a vs:=by
 obtain⟨⟨z,hd,vs,r,o,es,ep,h1,j,i,f,d⟩,l,k⟩:=(show ObjOk P w H h a (DN P w a xs) from znr ok e);refine⟨z,hd,vs,r,o,es,ep,h1,j,i,f,?_,d⟩;clear f d e z l k
 induction r with
 | nil=>intro x b;exact nomatch b
 | @cons p q ps m c t ih =>
  intro x b;rcases Jh.mp b with here|there
  ·have:=zdh ok (ks p JC)
   rw[c.1,c.2.1,<- here]at this;exact this
  ·exact ih (λy g=>ks y (JB _ g)) x there
end
section
variable {X:Cx}{pins:List (Addr × Obj)}{σ:St}{H:Hp}{s:Shared}{a b:Addr}{xs:KVN}{k:KN}{v d:V}{r:Value}{A:Around}{E:Value->Shared->Prop}
theorem zkL (a:A.units+3<cLine):(zbo X.prog X.w).room A.in1:=by show A.in1.units+2<cLine;rw[Around.in1_units];lia
theorem n_in {Q:Value->Shared->Prop}(d:A.units+3<cLine) (I:Inv X pins σ H s) (e:Rd H a (DN X.prog X.w a xs)) (ks:KsIn H xs) (c:NKey H k b) (h:∀ s',Inv X pins σ H s'->Q (.bool (valN xs k).isSome) s') :
  wpAny (model X.prog X.w) A (compareOp .In (.ref b) (.ref a)) Q E s:=by
 obtain⟨z,hd,vs,rel,f⟩:=zgc I.hok e ks;refine wpAny_in_heap (zkL d) (zdh I.hok c) hd f ?_;have q:=(zd1 rel k).isSome_eq;rw[Option.isSome_map]at q;rw[<- q];exact h _ (I.tok _)
theorem znJ {Q:Value->Shared->Prop}(j:A.units+3<cLine) (I:Inv X pins σ H s) (e:Rd H a (DN X.prog X.w a xs)) (ks:KsIn H xs) (i:NKey H k b) (g:RelV d r) (h:∀ c s',Inv X pins σ H s'->RelV ((valN xs k).getD d) c->Q c s') :
  wpAny (model X.prog X.w) A (call (.builtin "dict.get") [.ref a,.ref b,r]) Q E s:=by
 obtain⟨z,hd,vs,rel,f⟩:=zgc I.hok e ks;exact call_meetsIn PySem.F.slot_dict_get f.typeIs PySem.F.entry_dict_get (PySem.F.args_dict_get_3 _ _ _) (meetsH_dict_get_default (zbo X.prog X.w) a b hd r) ⟨zkL j,k,vs,zdh I.hok i,f,h _ _ (I.tok _) ((zd1 rel k).getD g)⟩
theorem zi0 {Q:Unit->Shared->Prop}(g:A.units+3<cLine) (I:Inv X pins σ H s) (e:H a=some (DN X.prog X.w a xs)) (ks:KsIn H xs) (f:NKey H k b) (d:RelV v r) (l:xs.length<sizeLine) (h:∀ s',Inv X pins σ (upd H a (DN X.prog X.w a (putN xs k b v))) s'->Q () s') :
  wpAny (model X.prog X.w) A (setItem (.ref a) (.ref b) r) Q E s:=by
 obtain⟨z,hd,vs,rel,o⟩:=zgc I.hok (.inl e) ks;have hz:vs.length<=sizeLine:=by rw[<- Z0 rel];exact z
 have m:(putN xs k b v).length<=sizeLine:=by have:=zgA xs k b v;lia
 refine wpAny_setItem_heap (hsz:=hz) (zkL g) (zdh I.hok f) o λh' c i=>h _ ?_;have n:∃ q,h'.get? a=some q:=let ⟨q,_,_,j,_⟩:=c;⟨q,j⟩;exact zgd I (by rw[e];exact True.intro) i n (dn_new m hd (putN_rel rel k b d) c)
end
section
variable {prog:Program}{w:World}{A:Around}{E:Value->Shared->Prop}{s:Shared}{d:Addr}
theorem zjG {o:Obj}{es:Array DictEntry}{ep:Nat}{Q:Value->Shared->Prop}(a:s.heap.get? d=some o) (b:o.ExactDict) (hd:o.data=.dict es ep) (c:(d == sysModules)=false) (h:Q (.int es.size s.toks) { s with toks:=s.toks+1 }) :
  wpAny (model prog w) A (Builtin.«dict.__len__» ⟨[.ref d],[]⟩) (λfin s'=>∃ r,fin=.done (.ret r)/\Q r s') E s:=by
 have ty:s.TypeIs (.ref d) "dict":=⟨o,a,b.1⟩;unfold Builtin.«dict.__len__» Builtin.Dict.dictSlotNone;refine J0 (J0 (wpAny_notOrdered_dict ty ?_));refine J0 ?_;show wpAny _ _ (pure ((.ref d,[]):Value × List Value)) _ _ _;refine J7 (J7 (J0 ?_));show wpAny _ _ (pure d) _ _ _;unfold dictSize;refine J7 (J0 (J0 (Yn a hd (J7 (J0 (wpAny_pendingCount_other c ?_))))));unfold retInt
 have g:Q (.int ((es.size:Int)+((0:Nat):Int)) s.toks) { s with toks:=s.toks+1 }:=by
  rw[show ((es.size:Int)+((0:Nat):Int))=es.size from Int.add_zero _];exact h
 exact J0 (wpAny_mkInt (J7 ⟨_,rfl,g⟩))
theorem zgQ {o:Obj}{es:Array DictEntry}{ep:Nat}{Q:Value->Shared->Prop}(b:s.heap.get? d=some o) (a:o.ExactDict) (hd:o.data=.dict es ep) (c:(d == sysModules)=false) (e:(es.size:Int)<2 ^ 63) (h:∀ t,Q (.int es.size t) { s with toks:=s.toks+1+1 }) :
  wpAny (model prog w) A (Builtin.«len» ⟨[.ref d],[]⟩) (λfin s'=>∃ r,fin=.done (.ret r)/\Q r s') E s:=by
 have ty:s.TypeIs (.ref d) "dict":=⟨o,b,a.1⟩;unfold Builtin.«len»;refine J0 ?_;show wpAny _ _ (pure (Value.ref d)) _ _ _;refine J7 (J0 (wpAny_callSpecial?_slot ty PySem.F.slot_dict_len (JV PySem.F.slot_dict_len ty PySem.F.entry_dict_len (zjG b a hd c ?_) (PySem.F.args_dict_len_1 _))));show wpAny _ _ (holding [Value.int (es.size:Int) s.toks] (asIndex (.int (es.size:Int) s.toks)) >>= _) _ _ _;refine J0 (Y1 (show wpAny _ _ (pure (es.size:Int)) _ _ _ from J7 (J0 (Zt ?_))));dsimp only;rw[Ja (by lia),Ja (by lia)];unfold retInt;exact J0 (wpAny_mkInt (J7 ⟨_,rfl,h _⟩))
end
section
variable {X:Cx}{pins:List (Addr × Obj)}{σ:St}{H:Hp}{s:Shared}{a:Addr}{xs:KVN}{A:Around}{E:Value->Shared->Prop}
theorem zkP {P:Program}{w:World}{h:Heap}(ok:HOk P w H h) (e:Rd H a (DN P w a xs)):(a == sysModules)=false/\∃ o es ep,h.get? a=some o/\o.ExactDict/\o.data=.dict es ep/\es.size=xs.length/\(es.size:Int)<2 ^ 63:=by
 obtain⟨⟨z,hd,vs,r,o,es,ep,h1,d,c,b,f⟩,_,_⟩:=(show ObjOk P w H h a (DN P w a xs) from znr ok e);have l:es.size=xs.length:=by rw[ZR b,<- Z0 r]
 refine⟨hd,o,es,ep,h1,d,c,l,?_⟩;rw[JM]at z;lia
theorem zos {Q:Value->Shared->Prop}(I:Inv X pins σ H s) (e:Rd H a (DN X.prog X.w a xs)) (h:∀ t s',Inv X pins σ H s'->Q (.int xs.length t) s'):wpAny (model X.prog X.w) A (call (.builtin "len") [.ref a]) Q E s:=by
 obtain⟨hd,o,es,ep,h1,c,b,l,f⟩:=zkP I.hok e;refine Calls.call_function_entry kind_len plain_len entry_len (args_len1 _) (zgQ h1 c b hd f λt=>?_);rw[l];exact h _ _ (I.tok _)
theorem zmH {Q:Bool->Shared->Prop}(I:Inv X pins σ H s) (e:Rd H a (DN X.prog X.w a xs)) (h:∀ s',Inv X pins σ H s'->Q (!xs.isEmpty) s'):wpAny (model X.prog X.w) A (truthy (.ref a)) Q E s:=by
 obtain⟨hd,o,es,ep,h1,c,d,l,f⟩:=zkP I.hok e;have ty:s.TypeIs (.ref a) "dict":=⟨o,h1,c.1⟩
 have q:∀ (n:Nat) (b:Bool),n=xs.length->b=((n:Int) != 0)->b = !xs.isEmpty:=λn b g e2=>by
  subst g e2
  cases xs with
  | nil=>rfl
  | cons x r=>rw[YE];simp;lia
 unfold truthy;show wpAny _ _ (callSpecial? (Value.ref a) (Str.ofString "__bool__") >>= _) _ _ _;refine J0 (wpAny_callSpecial?_none (T:="dict") ty noBool_dict ?_);show wpAny _ _ (specialOf (Value.ref a) (Str.ofString "__len__") >>= _) _ _ _;refine J0 (Zj (T:="dict") ty PySem.F.slot_dict_len.lookup ?_);show wpAny _ _ (runValue (Code.builtin "len" { pos:=[Value.ref a] }) >>= _) _ _ _;refine J0 (wpAny_runValue (Zk entry_len ?_));refine JU (zgQ (Q:=λr s'=>(∃ t,r=.int es.size t)/\Inv X pins σ H s') h1 c d hd f λt=>⟨⟨t,rfl⟩,I.tok _⟩) ?_ λ_ _ z=>z;rintro fin s' ⟨r,rfl,⟨t,rfl⟩,i⟩;refine J7 ?_;rw[q es.size _ l rfl];exact h s' i
end
def NAt (P:Program) (w:World) (H:Hp) (a:Addr) (xs:KVN):Prop:=Rd H a (DN P w a xs)/\KsIn H xs
def znl (P:Program) (w:World) (td ty tx:TE):TE:=λσ H Q=>td σ H λx H1=>∃ a,x=.ref a/\(∃ xs,Rd H1 a (DN P w a xs))/\ty σ H1 λy d=>tx σ d λz c=>∃ b xs k,y=.ref b/\NAt P w c a xs/\NKey c k b/\Q ((valN xs k).getD z) c
def zol (P:Program) (w:World) (td ty tv:TE):TS:=λD σ H=>tv σ H λv H1=>td σ H1 λx d=>ty σ d λy c=>∃ a b xs k,x=.ref a/\y=.ref b/\c a=some (DN P w a xs)/\KsIn c xs/\NKey c k b/\xs.length<sizeLine/\D.nx σ (upd c a (DN P w a (putN xs k b v)))
section
variable {X:Cx}{o i e f value:Expr}{pos pos' apos cpos:Pos}{td ty tv tx:TE}
theorem ziZ {pins:List (Addr × Obj)}{σ:St}{H:Hp}{s:Shared}{a:Addr}{xs:KVN}(I:Inv X pins σ H s) (d:Rd H a (DN X.prog X.w a xs)) :
  s.TypeIs (.ref a) "dict"/\∀ b,Value.ref a=.ref b->∃ ob,s.heap.get? b=some ob/\ob.dict=none:=by
 obtain⟨_,q,es,ep,h1,c,_⟩:=zkP I.hok d;refine⟨⟨q,h1,c.1⟩,λb z=>?_⟩;cases z;exact⟨q,h1,c.2.1⟩
theorem zkw (w:X.A.units+3<cLine) (A:PE X o td) (C:PE X e ty) (B:PE X f tx) (m:M2 X o "get" apos e f cpos):PE X (.Call (.Attribute o "get" apos) [e,f] [] cpos) (znl X.prog X.w td ty tx):=by
 intro pins s σ H Q I h;refine wpAny_Call_method m.base m.few m.line PySem.F.plainAttrs_dict PySem.F.slot_dict_get PySem.F.type_dict_get (thn (A pins s σ H _ I h) λu s1 ⟨x,H1,g,l,a,ex,⟨ys,d⟩,r⟩=>?_);subst ex;cases (show u=Value.ref a from l);obtain⟨t1,t2⟩:=ziZ g d;refine⟨t1,t2,?_⟩;rw[m.trees]
 refine ZX rfl (Calls.evalArgs_plain (Zu (thn (C pins s1 σ H1 _ g r) λv s2 ⟨y,K,G,j,q⟩ =>
  Zu (thn (B pins s2 σ K _ G q) λO N ⟨z,J,F,i,b,xs,k,D,n,t,p⟩=>ZW ?_))))
 subst D;cases (show v=Value.ref b from j);exact znJ w F n.1 n.2 t i λL M E c=>⟨_,J,E,c,p⟩
theorem zmg (q:X.A.units+3<cLine) (w:PE X o td) (hi:PE X i ty) (p:PE X value tv) (t:swapsWith value (some (.Subscript o i pos')) pos.line X.env=pure false) :
  PS X (.Assign [.Subscript o i pos'] value pos) (zol X.prog X.w td ty tv):=by
 intro pins s σ H D I h;refine wpAny_Assign_Subscript (thn (p pins s σ H _ I h) λr s1 ⟨v,H1,E,e,j⟩=>thn (w pins s1 σ H1 _ E j) λu s2 ⟨x,F,C,d,g⟩=>thn (hi pins s2 σ F _ C g) λn J ⟨y,K,B,c,a,b,xs,k,ex,z,hd,ks,m,l,f⟩=>?_) t;subst ex z;cases (show u=Value.ref a from d);cases (show n=Value.ref b from c);exact zi0 q B hd ks m e l λG A=>⟨σ,_,A,f⟩
theorem zjU:CallR X (.builtin "len") (λvs H Q=>∃ a xs,vs=[.ref a]/\Rd H a (DN X.prog X.w a xs)/\Q (.int xs.length) H):=by
 intro pins s σ H vs us Q I b ⟨a,xs,e,d,q⟩;subst e;obtain⟨u,rfl,c⟩:=b.one;cases (show u=Value.ref a from c);exact zos I d λt s' f=>⟨.int xs.length,H,f,⟨t,rfl⟩,q⟩
theorem zn7:TruR X (λx H Q=>∃ a xs,x=.ref a/\Rd H a (DN X.prog X.w a xs)/\Q (!xs.isEmpty) H):=by
 intro pins s σ H x v Q I b ⟨a,xs,e,d,q⟩;subst e;cases (show v=Value.ref a from b);exact zmH I d λs' c=>⟨H,c,q⟩
theorem pt_n (ha:PE X o td) (d:∀ whole,isTrue o X.env whole=(do let v <- whole;standAt o.pos;holding [v] (truthy v))) :
  PT X o (λσ H Q=>td σ H λx H'=>∃ a xs,x=.ref a/\Rd H' a (DN X.prog X.w a xs)/\Q (!xs.isEmpty) H'):=by
 intro pins s σ H Q I h;exact isTrue_plain (thn (ha pins s σ H _ I h) λv s1 ⟨x,H1,e,b,c⟩=>zn7 pins s1 σ H1 x v Q e b c) (d _)
def zof (P:Program) (w:World):TE:=λ_ H Q=>∀ p,H p=none->Q (.ref p) (upd H p (DN P w p []))
theorem ziE:PE X (.Dict [] [] pos) (zof X.prog X.w):=λpins s σ H Q I h =>
 wpAny_Dict_empty ⟨.ref s.heap.objs.size,_,I.laid (a:=s.heap.objs.size) (o:=DN X.prog X.w s.heap.objs.size []) (t':=s.toks) (λ_ _ q=>J8 _ q) (Jg _)
  (dn_new (vs:=[]) (JS _) (ZL.mpr (JT I.big)) .nil (Heap.DictOfH.new _)),rfl,h _ (I.hok.fresh (Jg _))⟩
end
def rOne (P:Program) (w:World) (p:Addr) (Q:VK):List (V × V)->Hp->Prop
 | [(y,v)],a=>∃ b k,y=.ref b/\a p=some (DN P w p [])/\NKey a k b/\Q (.ref p) (upd a p (DN P w p [(k,b,v)]))
 | _,_=>False
def zoe (P:Program) (w:World) (ty tv:TE):TE:=λσ H Q=>∀ p,H p=none->ty σ (upd H p (DN P w p [])) λy H1=>tv σ H1 λv a=>∃ b k,y=.ref b/\a p=some (DN P w p [])/\NKey a k b/\Q (.ref p) (upd a p (DN P w p [(k,b,v)]))
section
variable {X:Cx}{e f:Expr}{pos:Pos}{ty tv:TE}
theorem zkv (G:X.A.units+3<cLine) (B:PE X e ty) (u:PE X f tv):PE X (.Dict [some e] [f] pos) (zoe X.prog X.w ty tv):=by
 intro pins s σ H Q I q;have hn:=I.hok.fresh (Jg s.heap.objs.size)
 have E:=I.laid (a:=s.heap.objs.size) (o:=DN X.prog X.w s.heap.objs.size []) (h':=s.heap.push { cls:=.type "dict",data:=.dict #[] }) (t':=s.toks) (λ_ _ q=>J8 _ q) (Jg _)
  (dn_new (vs:=[]) (JS _) (ZL.mpr (JT I.big)) .nil (Heap.DictOfH.new _))
 refine wpAny_Dict_any rfl rfl (by simp) (by show 1<=15;lia) (thn ((zkp B u zmh) pins _ σ _ (rOne X.prog X.w s.heap.objs.size Q) E (q _ hn)) ?_);rintro vs s2 ⟨ps,J,d,rel,r⟩
 match ps,rel,r with
 | [(y,v)],rel,r =>
  obtain⟨b,k,rfl,g,n,m⟩:=r
  cases rel with
  | @cons _ i _ us h t =>
   cases t;obtain⟨j,F⟩:=i;cases (show j=Value.ref b from h.1);obtain⟨z,hd,vs,l,D⟩:=zgc d.hok (.inl g) (λx p=>nomatch p);cases l;unfold storeAll;rw[Yy];refine J0 (J0 (wpAny_dictSet_heap (knd:=zbo X.prog X.w) (k:=k) (hsz:=JS _) (show X.A.units+2<cLine by lia) (zdh d.hok n) D λh' c w=>J7 ?_));dsimp only;rw[YS];refine J7 ⟨.ref s.heap.objs.size,_,?_,rfl,m⟩;have C:∃ q,h'.get? s.heap.objs.size=some q:=let ⟨q,_,_,A,_⟩:=c;⟨q,A⟩
   exact zgd d (by rw[g];exact True.intro) w C (dn_new (by show 1<=sizeLine;decide) hd (.cons ⟨rfl,rfl,h.2⟩ .nil) c)
 | [],_,r=>exact r.elim
 | _::_::_,_,r=>exact r.elim
end
section
variable {prog:Program}{w:World}{A:Around}{E:Value->Shared->Prop}{s:Shared}{d:Addr}
theorem zjr {Q:Int->Shared->Prop}(q:Q (reduceHash 0xFCA86420) { s with toks:=s.toks+1 }):wpAny (model prog w) A (pyHash .none) Q E s:=by
 show wpAny (model prog w) A (pyHashByItsType .none) Q E s;refine W.pyHash_slot (T:="NoneType") (id:="NoneType.__hash__") (B:=Builtin.«NoneType.__hash__») rfl F.slot_NoneType_hash F.entry_NoneType_hash (F.args_NoneType_hash_1 _) (by decide) (.inl rfl) ?_;unfold Builtin.«NoneType.__hash__»;refine J0 ?_;show wpAny _ _ (pure _) _ _ _;unfold retInt;exact J7 (J0 (wpAny_mkInt (J7 ⟨_,_,rfl,q⟩)))
theorem zdp {a:Addr}{k:KN}{Q:Bool->Shared->Prop}(d:A.units<cLine) (c:NIs prog w s.heap k a) (q:Q false s):wpAny (model prog w) A (eqBool (.ref a) .none) Q E s:=by
 obtain⟨as,b⟩:=c.reads;exact PySem.SeqAt.eqBoolOverData prog w A E s _ _ _ .none as [] Q b .none (zjf k).1 rfl (by show A.units+min _ 0<cLine;lia) q
theorem zhj {n:Nat}{Q:Bool->Shared->Prop}(q:Q true s):wpAny (model prog w) A (eqIsQuiet n .none) Q E s:=by
 cases n<;>exact J7 q
theorem zhe {α β:Type}{f:α->β->Sem (ForInStep β)}{b:β}:∀ (l:List α) {Q:β->Shared->Prop},(∀ i∈l,∀ R:ForInStep β->Shared->Prop,R (.yield b) s->wpAny (model prog w) A (f i b) R E s)->Q b s->wpAny (model prog w) A (forIn l b f) Q E s
 | [],Q,_,q=>by rw[YS];exact J7 q
 | i::l,Q,h,q=>by
  rw[Yy];exact J0 (h i JC _ (zhe l (λj a=>h j (JB _ a)) q))
theorem zh4 {stored:List Value}{Q:Bool->Shared->Prop}(h:∀ v∈stored,∃ a k,v=.ref a/\NIs prog w s.heap k a) (q:Q false s):wpAny (model prog w) A (tableMayTell .none stored) Q E s:=by
 unfold tableMayTell;by_cases c:stored.isEmpty=true
 ·rw[Jf c];exact J7 q
 rw[Ja c];refine J0 (zhj (J0 (zhe stored (λv b R r=>?_) (J7 q))));obtain⟨a,k,rfl,d⟩:=h v b;exact J0 (zdK d (J7 r))
theorem zjA {o:Obj}{es:Array DictEntry}{ep:Nat}{h:Int}{Q:Option Nat->Shared->Prop}(n:A.units<cLine) (f:s.heap.get? d=some o) (hd:o.data=.dict es ep) (B:∀ e∈es.toList,∃ a k,e.key=.ref a/\NIs prog w s.heap k a) (q:Q none s) :
  wpAny (model prog w) A (dictFind d .none h) Q E s:=by
 have key:∀ (i:Nat) (e:DictEntry),es[i]?=some e->∃ a k,e.key=.ref a/\NIs prog w s.heap k a:=λi e b=>B e (by
  obtain⟨l,z⟩:=JK.mp b
  rw[<- z];exact Array.getElem_mem_toList l)
 unfold dictFind;refine Y1 (J0 (Yn f hd ?_));by_cases c:(Value.none::List.filterMap (λi=>Option.map (λx=>x.key) es[i]?) (placesWithHash es.size (λi=>Option.map (λx=>x.hash) es[i]?) h)).all carriedByValue=true
 ·refine(JR (λm=>wpAny (model prog w) A m Q E s) (Jf c)).mpr ?_
  unfold dictWalkPlain;refine J0 (zhe _ (λi hi R r=>?_) (J7 q))
  cases b:es[i]? with
  | none=>exact J7 r
  | some e =>
   obtain⟨a,k,j,g⟩:=key i e b;by_cases ch:(e.hash == h)=true
   ·refine(JR (λm=>wpAny (model prog w) A m R E s) (Jf ch)).mpr (J0 (Ys f hd (J0 ?_)))
    rw[j];refine zdp n g (J0 (Ys f hd ?_));dsimp only;rw[Ja (c:=(ep != ep)=true) (by simp),Ja Jq];exact J0 (YR (J7 r))
   ·exact(JR (λm=>wpAny (model prog w) A m R E s) (Ja ch)).mpr (J7 r)
 ·refine(JR (λm=>wpAny (model prog w) A m Q E s) (Ja c)).mpr ?_
  have t:∀ v∈List.filterMap (λi=>Option.map (λx=>x.key) es[i]?) (placesWithHash es.size (λi=>Option.map (λx=>x.hash) es[i]?) h),∃ a k,v=.ref a/\NIs prog w s.heap k a:=λv y=>by
   obtain⟨i,-,e,b,rfl⟩:∃ i:Nat,True/\∃ e:DictEntry,es[i]?=some e/\e.key=v:=by
    obtain⟨i,p⟩:=List.mem_filterMap.mp y;exact⟨i,True.intro,Y8.mp p.2⟩
   exact key i e b
  by_cases u:(List.filterMap (λi=>Option.map (λx=>x.key) es[i]?) (placesWithHash es.size (λi=>Option.map (λx=>x.hash) es[i]?) h) == [Value.none])=true
  ·refine(JR (λm=>wpAny (model prog w) A m Q E s) (Jf u)).mpr (J0 (J7 ?_))
   dsimp only;rw[Ja (by simp)];refine J0 (zhe _ (λi hi R r=>?_) (J7 q))
   cases b:es[i]? with
   | none=>exact J7 r
   | some e =>
    obtain⟨a,k,j,g⟩:=key i e b;by_cases ch:(e.hash == h)=true
    ·refine(JR (λm=>wpAny (model prog w) A m R E s) (Jf ch)).mpr (J0 (Ys f hd (J0 ?_)))
     rw[j];refine zdp n g (J0 (Ys f hd ?_));rw[Ja (c:=(ep != ep)=true) (by simp),Ja Jq];refine J0 (YR ?_);rw[Ja (by simp)];exact J7 r
    ·exact(JR (λm=>wpAny (model prog w) A m R E s) (Ja ch)).mpr (J7 r)
  ·refine(JR (λm=>wpAny (model prog w) A m Q E s) (Ja u)).mpr (J0 (zh4 t ?_))
   dsimp only;rw[Ja (by simp)];refine J0 (zhe _ (λi hi R r=>?_) (J7 q))
   cases b:es[i]? with
   | none=>exact J7 r
   | some e =>
    obtain⟨a,k,j,g⟩:=key i e b;by_cases ch:(e.hash == h)=true
    ·refine(JR (λm=>wpAny (model prog w) A m R E s) (Jf ch)).mpr (J0 (Ys f hd (J0 ?_)))
     rw[j];refine zdp n g (J0 (Ys f hd ?_));rw[Ja (c:=(ep != ep)=true) (by simp),Ja Jq];refine J0 (YR ?_);rw[Ja (by simp)];exact J7 r
    ·exact(JR (λm=>wpAny (model prog w) A m R E s) (Ja ch)).mpr (J7 r)
theorem zla {o:Obj}{es:Array DictEntry}{ep:Nat}{Q:Option Value->Shared->Prop}(b:A.units<cLine) (c:s.heap.get? d=some o) (hd:o.data=.dict es ep) (f:∀ e∈es.toList,∃ a k,e.key=.ref a/\NIs prog w s.heap k a) (q:Q none { s with toks:=s.toks+1 }) :
  wpAny (model prog w) A (dictGet d .none) Q E s:=by
 unfold dictGet;exact Y1 (J0 (zjr (J0 (zjA (s:={ s with toks:=s.toks+1 }) b c hd f (J7 q)))))
theorem zew {o:Obj}{es:Array DictEntry}{ep:Nat}{Q:Value->Shared->Prop}(b:A.units<cLine) (f:s.heap.get? d=some o) (h:o.ExactDict) (hd:o.data=.dict es ep) (c:(d == sysModules)=false) (g:∀ e∈es.toList,∃ a k,e.key=.ref a/\NIs prog w s.heap k a) (q:Q (.bool false) { s with toks:=s.toks+1 }) :
  wpAny (model prog w) A (Builtin.«dict.__contains__» ⟨[.ref d,.none],[]⟩) (λfin s'=>∃ r,fin=.done (.ret r)/\Q r s') E s:=by
 unfold Builtin.«dict.__contains__»;refine J0 ?_;show wpAny _ _ (pure (d,Value.none)) _ _ _;refine J7 (J0 (zla b f hd g ?_));show wpAny _ _ (Builtin.Dict.pendingKey? d .none >>= _) _ _ _;exact J0 (wpAny_pendingKey_other c (J7 ⟨_,rfl,q⟩))
section
variable {X:Cx}{pins:List (Addr × Obj)}{σ:St}{H:Hp}{a:Addr}{xs:KVN}
theorem zkQ {Q:Value->Shared->Prop}(l:A.units+3<cLine) (I:Inv X pins σ H s) (e:Rd H a (DN X.prog X.w a xs)) (ks:KsIn H xs) (h:∀ s',Inv X pins σ H s'->Q (.bool false) s') :
  wpAny (model X.prog X.w) A (compareOp .In .none (.ref a)) Q E s:=by
 obtain⟨z,hd,vs,rel,o,es,ep,h1,c,j,i,g,m⟩:=zgc I.hok e ks
 have f:∀ e∈es.toList,∃ a k,e.key=.ref a/\NIs X.prog X.w s.heap k a:=λe b=>by
  rw[i]at b;obtain⟨x,d,rfl⟩:=JH.mp b;exact⟨x.2.1,x.1,rfl,g x d⟩
 have ty:s.TypeIs (.ref a) "dict":=⟨o,h1,c.1⟩;show wpAny _ _ (contains (.ref a) .none >>= _) _ _ _
 exact J0 (wpAny_contains_slot ty slot_dict_contains (JV slot_dict_contains ty entry_dict_contains
  (zew (by rw[Around.in1_units];lia) h1 c j hd f (ZV (J7 (h _ (I.tok _))))) (args_dict_contains _ _)))
end
def rInN (P:Program) (w:World):V->V->Hp->VK->Prop:=λx y H Q=>∃ a xs,y=.ref a/\NAt P w H a xs/\((∃ b k,x=.ref b/\NKey H k b/\Q (.bl (valN xs k).isSome) H)\/(x=.non/\Q (.bl false) H))
theorem znB {X:Cx}(e:X.A.units+3<cLine):OpR X (compareOp .In) (rInN X.prog X.w):=by
 intro pins s σ H x y v u Q I d g ⟨a,xs,i,n,q⟩;subst i;cases (show u=Value.ref a from g);rcases q with ⟨b,k,ex,h,q⟩|⟨ex,q⟩
 ·subst ex
  cases (show v=Value.ref b from d);exact n_in e I n.1 n.2 h λf c=>⟨.bl (valN xs k).isSome,H,c,rfl,q⟩
 ·subst ex
  cases (show v=Value.none from d);exact zkQ e I n.1 n.2 λf c=>⟨.bl false,H,c,rfl,q⟩
end
section
variable {prog:Program}{w:World}{A:Around}{E:Value->Shared->Prop}{s:Shared}{d b:Addr}{K:Type}[DecidableEq K]{knd:HeapKind prog w K}{xs:List (K × Addr × Value)}{k:K}{v:Value}
theorem zdI {Q:Unit->Shared->Prop}(C:knd.room A) (r:knd.is s.heap k b) (hm:s.heap.DictOfH knd d xs) (hz:xs.length<=sizeLine)
  (q:∀ h',h'.DictOfH knd d (storedH xs k b v)->Heap.SameBut d s.heap h'->Q () { s with heap:=h' }):wpAny (model prog w) A (dictSetHashed d (.ref b) (knd.hash k) v) Q E s:=by
 obtain⟨o,es,ep,f,n,hd,m,h,hn⟩:=hm;unfold dictSetHashed;refine Y1 (J0 (wpAny_dictFind_heap C r f hd m h hn (λno=>?_) (λj p l=>?_)))
 ·refine J0 (YR (wpAny_updateDictKeys f hd (q _ ?_ (YU _ _ _)) (by rw[ZR m];exact hz) (by simp)))
  have i:=YU s.heap d (Obj.mapDictKeys λx=>x.push ⟨knd.hash k,.ref b,v⟩);refine⟨_,_,_,Y9 _ f (Obj.isFreed_of_dict (Obj.data_mapDictKeys hd _)),n.mapDictKeys _,Obj.data_mapDictKeys hd _,?_,?_,?_⟩
  ·rw[storedH_new (atKey_none_of_get no),JN,Z7,m];rfl
  ·rw[storedH_new (atKey_none_of_get no)]
   intro x g;rcases Jx.mp g with z|z
   ·exact knd.keeps (h x z) f hd i
   ·rw[Jd.mp z];exact knd.keeps r f hd i
  ·rw[storedH_new (atKey_none_of_get no),JN,List.nodup_append]
   refine⟨hn,by simp,λa ha c t=>?_⟩;rw[List.map_singleton,Jd]at t;rintro rfl;rw[t]at ha;exact not_mem_keys_of_get no ha
 ·refine J0 (YR (J0 (wpAny_updateDict f hd (wpAny_point (q _ ?_ (YU _ _ _))) (by simp))))
  have i:=YU s.heap d (Obj.mapDict λx=>x.modify j λe=>{ e with val:=v });refine⟨_,_,_,Y9 _ f (Obj.isFreed_of_dict (Obj.data_mapDict hd _)),n.mapDict _,Obj.data_mapDict hd _,?_,?_,?_⟩
  ·rw[storedH_old (atKey_of_get hn l),Wk,m]
   exact modify_map_putAt _ _ k v (λa u=>rfl) hn l
  ·have so:=storedH_old (atKey_of_get hn l) b v
   rw[so];intro x g;obtain⟨y,B,rfl⟩:=JH.mp g;have:=knd.keeps (h y B) f hd i;unfold putAt;split
   ·exact this
   ·exact this
  ·rw[storedH_old (atKey_of_get hn l),keys_map_putAt];exact hn
def mergeN (xs ys:List (K × Addr × Value)):List (K × Addr × Value):=ys.foldl (λacc y=>storedH acc y.1 y.2.1 y.2.2) xs
theorem zh5 (acc:List (K × Addr × Value)) (y:K × Addr × Value):(storedH acc y.1 y.2.1 y.2.2).length<=acc.length+1:=by
 unfold storedH;split
 ·rw[Jm];lia
 ·rw[Jn];exact Jg _
theorem zcC {o:Addr}{ob:Obj}{ys:List (K × Addr × Value)}{Q:PUnit->Shared->Prop}{f:Nat->PUnit->Sem (ForInStep PUnit)}(ne:d≠o)
  (step:∀ (i:Nat) (a:i<ys.length) (s:Shared) (acc:List (K × Addr × Value)) (R:ForInStep PUnit->Shared->Prop),s.heap.get? o=some ob->s.heap.DictOfH knd d acc->knd.is s.heap ys[i].1 ys[i].2.1->acc.length<=sizeLine ->
   (∀ h',h'.DictOfH knd d (storedH acc ys[i].1 ys[i].2.1 ys[i].2.2)->Heap.SameBut d s.heap h'->R (.yield PUnit.unit) { s with heap:=h' })->wpAny (model prog w) A (f i PUnit.unit) R E s) :
  ∀ (m i:Nat) (s:Shared) (acc:List (K × Addr × Value)),i+m=ys.length->s.heap.get? o=some ob->s.heap.DictOfH knd d acc->(∀ x∈ys,knd.is s.heap x.1 x.2.1)->acc.length+m<=sizeLine ->
  (∀ h',h'.DictOfH knd d (mergeN acc (ys.drop i))->Heap.SameBut d s.heap h'->Q PUnit.unit { s with heap:=h' })->wpAny (model prog w) A (forIn (List.range' i m) PUnit.unit f) Q E s
 | 0,i,s,acc,hi,h1,hm,c,hz,q=>by
  rw[List.range'_zero,YS];refine J7 (q s.heap ?_ (Heap.SameBut.refl _ _));rw[List.drop_eq_nil_of_le (by lia)]
  exact hm
 | m+1,i,s,acc,hi,h1,hm,c,hz,q=>by
  have a:i<ys.length:=by lia
  rw[show List.range' i (m+1)=i::List.range' (i+1) m from rfl,Yy];refine J0 (step i a s acc _ h1 hm (c _ (Yr a)) (by lia) λh' h b=>?_);obtain⟨o2,r,t,p,B,n,y,v,u⟩:=hm;have j:h'.get? o=some ob:=by rw[b.2 o (λz=>ne z.symm)];exact h1
  refine zcC ne step m (i+1) { s with heap:=h' } _ (by lia) j h (λx k=>knd.keeps (c x k) p n b) ?_ λl g e=>q l ?_ (b.trans e)
  ·have:=zh5 acc ys[i]
   lia
  ·rw[YX a]
   exact g
end
section
variable {prog:Program}{w:World}{A:Around}{E:Value->Shared->Prop}{s:Shared}{d:Addr}{K:Type}[DecidableEq K]{knd:HeapKind prog w K}{xs ys:List (K × Addr × Value)}
theorem zkA {o:Addr}{ob:Obj}{es:Array DictEntry}{ep:Nat}{nm:String}{Q:Array DictEntry->Shared->Prop}(h1:s.heap.get? o=some ob) (h:ob.data=.dict es ep) (d:es.toList=ys.map (entryOfKey knd)) (i:ys.length<=1)
  (g:∀ x∈ys,∀ R:Bool->Shared->Prop,R false s->wpAny (model prog w) A (Builtin.Dict.quietEq (.ref x.2.1)) R E s) (q:Q es s):wpAny (model prog w) A (Builtin.Dict.entriesForEmpty nm o) Q E s:=by
 show wpAny _ _ (dictEntries o >>= _) _ _ _;refine J0 (Yn h1 h (J0 ?_));rw[<- Array.forIn_toList];refine zhe _ (λe b R r=>?_) (J7 q);rw[d]at b;obtain⟨x,f,rfl⟩:=JH.mp b;refine J0 (g x f _ ?_)
 have a:¬(Array.filter (λz=>z.hash == (entryOfKey knd x).hash) es).size > 1:=by
  have l1:=Array.size_filter_le (p:=λz:DictEntry=>z.hash == (entryOfKey knd x).hash) (xs:=es);have l2:=ZR d;lia
 rw[Jf (c:=(!false)=true) rfl,Ja a];exact J7 r
theorem znC {o2:Obj}{es b:Array DictEntry}{c:Nat}{y:K × Addr × Value}(e:s.heap.get? d=some o2) (j:o2.ExactDict) (a:o2.data=.dict b c) (i:es.toList=[y].map (entryOfKey knd)) (h:knd.is s.heap y.1 y.2.1) :
  (s.heap.update d (Obj.mapDictKeys λ_=>es)).DictOfH knd d [y]:=by
 have f:=YU s.heap d (Obj.mapDictKeys λ_=>es);refine⟨_,_,_,Y9 _ e (Obj.isFreed_of_dict (Obj.data_mapDictKeys a _)),j.mapDictKeys _,Obj.data_mapDictKeys a _,i,?_,by simp⟩;intro x g;rw[Jd.mp g];exact knd.keeps h e a f
theorem zhv {o:Addr}{nm:String}{Q:Unit->Shared->Prop}(G:knd.room A) (ne:d≠o) (J:(o == sysModules)=false) (hm:s.heap.DictOfH knd d xs) (hn:s.heap.DictOfH knd o ys) (hz:xs.length+ys.length<=sizeLine) (I:xs≠[]\/ys.length=1)
  (H:∀ x∈ys,∀ R:Bool->Shared->Prop,R false s->wpAny (model prog w) A (Builtin.Dict.quietEq (.ref x.2.1)) R E s)
  (q:∀ h',h'.DictOfH knd d (mergeN xs ys)->Heap.SameBut d s.heap h'->Q () { s with heap:=h' }):wpAny (model prog w) A (Builtin.Dict.mergeDict nm d o) Q E s:=by
 obtain⟨ob,es,ep,h1,O,b,h,v,N⟩:=id hn;obtain⟨o2,l,M,C,L,B,K,S,P⟩:=id hm
 have sz:([:es.size]:Std.Legacy.Range).size=ys.length:=by
  rw[<- ZR h];simp[Std.Legacy.Range.size]
 unfold Builtin.Dict.mergeDict;rw[Ja (by simpa using ne)];refine J0 ?_;unfold Builtin.Dict.showsAll;rw[Ja (by rw[J];simp)];refine J7 (J0 (Yn h1 b ?_));dsimp only;by_cases few:(!(decide (es.size<=8) && es.all λe=>(keyPart e.key).isSome))=true
 ·rw[Jf few]
  refine J0 (Yn C B ?_);by_cases em:l.isEmpty=true
  ·rw[Jf em]
   have e2:l.size=0:=by simpa using em
   have x0:xs=[]:=by
    rw[ZR K]at e2;exact List.eq_nil_of_length_eq_zero e2
   have F:ys.length=1:=I.resolve_left λz=>z x0;have l2:es.size=1:=(ZR h).trans F;refine J0 (zkA h1 b h (by lia) H ?_);rw[Jf (c:=(!es.isEmpty)=true) (by simp;intro z;rw[z]at l2;cases l2)];refine J0 (wpAny_updateDictKeys C B (J7 (q _ ?_ (YU _ _ _))) (by rw[e2];exact JS _) (by rw[l2];lia));obtain⟨y,rfl⟩:=List.length_eq_one_iff.mp F;subst x0;exact znC C L B h (v y JC)
  ·rw[Ja em]
   refine J0 (Ys h1 b (J0 (Yn h1 b (J0 ?_))));refine(JR (λm=>wpAny (model prog w) A m _ E s) (Std.Legacy.Range.forIn_eq_forIn_range' _ _ _)).mpr ?_;rw[sz];refine zcC (ob:=ob) (ys:=ys) ne (λi u s acc R j r t n p=>?_) ys.length 0 s xs (by lia) h1 hm v hz λh' a f=>J7 (q h' a f);have D:es[i]?=some (entryOfKey knd ys[i]):=by rw[entry_at h,J6 u];rfl
   refine J0 (Yn j b ?_);rw[D];refine J0 (Y1 (zdI (k:=ys[i].1) G t r n λh' a f=>?_));have g:h'.get? o=some ob:=by rw[f.2 o (λz=>ne z.symm)];exact j
   refine J0 (Ys (s:={ s with heap:=h' }) g b ?_);rw[Ja (c:=(ep != ep)=true) (by simp)];exact J7 (p h' a f)
 ·rw[Ja few]
  refine J0 (Ys h1 b (J0 (Yn h1 b (J0 ?_))));refine(JR (λm=>wpAny (model prog w) A m _ E s) (Std.Legacy.Range.forIn_eq_forIn_range' _ _ _)).mpr ?_;rw[sz];refine zcC (ob:=ob) (ys:=ys) ne (λi u s acc R j r t n p=>?_) ys.length 0 s xs (by lia) h1 hm v hz λh' a f=>J7 (q h' a f);have D:es[i]?=some (entryOfKey knd ys[i]):=by rw[entry_at h,J6 u];rfl
  refine J0 (Yn j b ?_);rw[D];refine J0 (Y1 (zdI (k:=ys[i].1) G t r n λh' a f=>?_));have g:h'.get? o=some ob:=by rw[f.2 o (λz=>ne z.symm)];exact j
  refine J0 (Ys (s:={ s with heap:=h' }) g b ?_);rw[Ja (c:=(ep != ep)=true) (by simp)];exact J7 (p h' a f)
theorem zkk {a:Addr}{k:KN}{R:Bool->Shared->Prop}(h:NIs prog w s.heap k a) (r:R false s):wpAny (model prog w) A (Builtin.Dict.quietEq (.ref a)) R E s:=by
 obtain⟨o,its,n,h1,b,d,c⟩:=h;exact J0 (Zj (T:="tuple") ⟨o,h1,b⟩ F.slot_tuple_eq.lookup (J7 r))
theorem zfw {o:Addr}{Q:Value->Shared->Prop}(e:knd.room A) (ne:d≠o) (h:(o == sysModules)=false) (hm:s.heap.DictOfH knd d xs) (hn:s.heap.DictOfH knd o ys) (hz:xs.length+ys.length<=sizeLine) (g:xs≠[]\/ys.length=1)
  (f:∀ x∈ys,∀ R:Bool->Shared->Prop,R false s->wpAny (model prog w) A (Builtin.Dict.quietEq (.ref x.2.1)) R E s)
  (q:∀ h',h'.DictOfH knd d (mergeN xs ys)->Heap.SameBut d s.heap h'->Q .none { s with heap:=h' }):wpAny (model prog w) A (Builtin.«dict.update» ⟨[.ref d,.ref o],[]⟩) (λfin s'=>∃ r,fin=.done (.ret r)/\Q r s') E s:=by
 have ty:=hn.typeIs;unfold Builtin.«dict.update»;refine J0 ?_;show wpAny _ _ (Builtin.Dict.notOrdered "update" ⟨[Value.ref d,Value.ref o],[]⟩ >>= _) _ _ _;refine J0 (wpAny_notOrdered_dict (s:=s) hm.typeIs ?_);show wpAny _ _ (pure (d,[Value.ref o])) _ _ _;refine J7 ?_;show wpAny _ _ (Builtin.Dict.updateFrom "dict.update" d (.ref o) [] .none) _ _ _;show wpAny _ _ (typeOf (Value.ref o) >>= _) _ _ _;refine J0 (YQ ty ?_);rw[Ja (by simp)];refine J0 ?_;unfold Builtin.Dict.merge Builtin.Dict.readDirectly;refine J0 (J0 (Zr (T:="dict") (b:=true) ty rfl ?_));rw[Ja (by simp)];refine J0 (Zj (T:="dict") ty F.slot_dict_iter.lookup (J7 ?_));rw[Jf (by decide)];refine J0 ?_;show wpAny _ _ (pure o) _ _ _;refine J7 (zhv e ne h hm hn hz g f λh' a c=>?_);refine J0 ?_;show wpAny _ _ (pure ()) _ _ _;exact J7 (J7 ⟨_,rfl,q h' a c⟩)
end
def zcL (xs ys:KVN):KVN:=ys.foldl (λacc y=>putN acc y.1 y.2.1 y.2.2) xs
theorem mergeV_rel:∀ {ys:KVN}{us:List (KN × Addr × Value)}{xs:KVN}{vs:List (KN × Addr × Value)},Paired PrN ys us->Paired PrN xs vs->Paired PrN (zcL xs ys) (mergeN vs us):=by
 intro ys us xs vs r
 induction r generalizing xs vs with
 | nil=>intro q;exact q
 | @cons p u ps us h t ih =>
  intro q;have e:=putN_rel q p.1 p.2.1 h.2.2;rw[show storedH vs p.1 p.2.1 u.2.2=storedH vs u.1 u.2.1 u.2.2 by rw[h.1,h.2.1]]at e;exact ih e
theorem mergeV_len:∀ (ys xs:KVN),(zcL xs ys).length<=xs.length+ys.length
 | [],xs=>Jg _
 | y::ys,xs=>by
  have h1:=mergeV_len ys (putN xs y.1 y.2.1 y.2.2);have a:=zgA xs y.1 y.2.1 y.2.2;show (zcL (putN xs y.1 y.2.1 y.2.2) ys).length<=_;rw[JW];lia
section
variable {X:Cx}{pins:List (Addr × Obj)}{σ:St}{H:Hp}{s:Shared}{a b:Addr}{xs ys:KVN}{A:Around}{E:Value->Shared->Prop}
theorem zkO {Q:Value->Shared->Prop}(n:A.units+3<cLine) (ne:a≠b) (I:Inv X pins σ H s) (i:H a=some (DN X.prog X.w a xs)) (l:KsIn H xs) (y:Rd H b (DN X.prog X.w b ys)) (k:KsIn H ys) (hz:xs.length+ys.length<=sizeLine) (u:xs≠[]\/ys.length=1)
  (h:∀ s',Inv X pins σ (upd H a (DN X.prog X.w a (zcL xs ys))) s'->Q .none s'):wpAny (model X.prog X.w) A (call (.builtin "dict.update") [.ref a,.ref b]) Q E s:=by
 obtain⟨z,hd,vs,rel,j⟩:=zgc I.hok (.inl i) l;obtain⟨z2,g,us,c,d⟩:=zgc I.hok y k;refine JV PySem.F.slot_dict_update j.typeIs PySem.F.entry_dict_update (zfw (zkL n) ne g j d (by rw[<- Z0 rel,<- Z0 c];exact hz) ?_ ?_ λh' f p=>h _ ?_) (PySem.F.args_dict_update_2 _ _)
 ·rcases u with z|z
  ·refine .inl λe=>z ?_
   subst e;cases rel;rfl
  ·exact .inr (by rw[<- Z0 c];exact z)
 ·intro x m R r
  obtain⟨o,es,ep,h1,F,D,C,w,B⟩:=d;exact zkk (w x m) r
 ·have v:∃ q,h'.get? a=some q:=let ⟨q,_,_,t,_⟩:=f;⟨q,t⟩
  exact zgd I (by rw[i];exact True.intro) p v (dn_new (JX (mergeV_len _ _) hz) hd (mergeV_rel c rel) f)
end
def zod (P:Program) (w:World) (td ty:TE):TE:=λσ H Q=>td σ H λx H1=>∃ a,x=.ref a/\(∃ xs,Rd H1 a (DN P w a xs))/\ty σ H1 λy c=>∃ b xs ys,y=.ref b/\a≠b/\c a=some (DN P w a xs)/\KsIn c xs/\NAt P w c b ys/\xs.length+ys.length<=sizeLine/\(xs≠[]\/ys.length=1)/\Q .non (upd c a (DN P w a (zcL xs ys)))
theorem zmm {X:Cx}{o e:Expr}{apos cpos:Pos}{td ty:TE}(p:X.A.units+3<cLine) (q:PE X o td) (t:PE X e ty) (m:M1 X o "update" apos e cpos):PE X (.Call (.Attribute o "update" apos) [e] [] cpos) (zod X.prog X.w td ty):=by
 intro pins s σ H Q I h;refine wpAny_Call_method m.base m.few m.line PySem.F.plainAttrs_dict PySem.F.slot_dict_update PySem.F.type_dict_update (thn (q pins s σ H _ I h) λu s1 ⟨x,H1,c,g,a,ex,⟨zs,d⟩,j⟩=>?_);subst ex;cases (show u=Value.ref a from g);obtain⟨t1,t2⟩:=ziZ c d;refine⟨t1,t2,?_⟩;rw[m.trees];refine ZX rfl (Calls.evalArgs_plain (Zu (thn (t pins s1 σ H1 _ c j) λl s2 ⟨y,C,A,f,b,xs,ys,v,ne,w,k,n,hz,r,i⟩=>ZW ?_)));subst v;cases (show l=Value.ref b from f);exact zkO p ne A w k n.1 n.2 hz r λB z=>⟨.non,_,z,rfl,i⟩
section
variable {prog:Program}{w:World}{A:Around}{E:Value->Shared->Prop}{s:Shared}{d:Addr}{o:Obj}{es:Array DictEntry}{ep:Nat}
theorem zjn {Q:Value->Shared->Prop}(a:s.heap.get? d=some o) (c:o.ExactDict) (hd:o.data=.dict es ep) (e:(d == sysModules)=false)
  (q:Q (.ref s.heap.objs.size) { s with heap:=s.heap.push { cls:=.type "dict_keyiterator",data:=.fields #[.ref d,.int 0 0,.int es.size 0,.int ep 0] } }):wpAny (model prog w) A (pyIter (.ref d)) Q E s:=by
 have ty:s.TypeIs (.ref d) "dict":=⟨o,a,c.1⟩;have nx:=F.slot_dict_keyiterator_next.lookup
 have body:wpAny (model prog w) A.in1 (Builtin.«dict.__iter__» ⟨[.ref d],[]⟩) (λfin s'=>∃ v,fin=.done (.ret v)/\∃ b r,s'.TypeIs v b/\typeLookup (Value.type b) (Str.ofString "__next__")=pure (some r)/\Q v s') E s:=by
  unfold Builtin.«dict.__iter__» Builtin.Dict.dictSlotNone;refine J0 (J0 (wpAny_notOrdered_dict ty (J0 ?_)));show wpAny _ _ (pure ((.ref d,[]):Value × List Value)) _ _ _;refine J7 (J7 (J0 ?_));refine(show wpAny _ _ (pure d) _ _ _ from J7 (J0 ?_));unfold Builtin.Dict.showsAll;rw[Ja (by rw[e];simp)];refine J7 (J0 (Yn a hd (J0 (Ys a hd (J0 ?_)))));exact JQ (J7 ⟨_,rfl,_,_,⟨_,Jt _ rfl,rfl⟩,nx,q⟩)
 exact wpAny_pyIter_slot ty F.slot_dict_iter (JV F.slot_dict_iter ty F.entry_dict_iter body (F.args_dict_iter_1 _))
end
section
variable {prog:Program}{w:World}{A:Around}{E:Value->Shared->Prop}{s:Shared}{d it:Addr}{o:Obj}{es:Array DictEntry}{ep i:Nat}{e:DictEntry}
theorem ziY {Q:Value->Shared->Prop}(l:s.heap.get? d=some o) (hd:o.data=.dict es ep) (hi:s.heap.IsKeyIter it d i es.size ep) (n:es[i]?=some e)
  (q:∀ h',h'.IsKeyIter it d (i+1) es.size ep->(∀ b u,b≠it->s.heap.get? b=some u->h'.get? b=some u)->Q e.key { s with heap:=h' }) :
  wpAny (model prog w) A (Builtin.«dict_keyiterator.__next__» ⟨[.ref it],[]⟩) (λfin s'=>∃ v,fin=.done (.ret v)/\Q v s') E s:=by
 obtain⟨k,f,h,g⟩:=id hi;have ty:s.TypeIs (.ref it) "dict_keyiterator":=⟨k,f,h⟩;unfold Builtin.«dict_keyiterator.__next__»;refine J0 ?_;show wpAny _ _ (pure (Value.ref it)) _ _ _;refine J7 (J0 (J0 (J0 (Wd ty (J7 (J0 (wpAny_fieldsOf f g ?_)))))));show wpAny _ _ (Builtin.Dict_items.addrOf (Value.ref d) >>= _) _ _ _;refine J0 (show wpAny _ _ (pure d) _ _ _ from J7 (J0 (Yn l hd ?_)));dsimp only;rw[Ja (c:=((es.size:Int) != (es.size:Int))=true) (by simp)];refine J0 (show wpAny _ _ (pure d) _ _ _ from J7 (J0 (Ys l hd ?_)));rw[Ja (c:=((ep:Int) != (ep:Int))=true) (by simp)];refine J7 ?_;dsimp only;rw[Ja (c:=(i:Int)<0) (by lia),Yt,n];refine J0 (J0 (Wd ty (J7 (J0 (wpAny_isOneOf_keyiter ty ?_)))));show wpAny _ _ (setField (.ref it) 1 (rawInt ((i:Int)+1)) >>= _) _ _ _;refine J0 (wpAny_setField f g (by show 1<4;lia) ?_);have nd:(k.mapFields (·.setIfInBounds 1 (rawInt ((i:Int)+1)))).data=.fields #[.ref d,.int ((i+1:Nat):Int) 0,.int es.size 0,.int ep 0]:=Obj.data_mapFields g _;have m:=YU s.heap it (Obj.mapFields (·.setIfInBounds 1 (rawInt ((i:Int)+1))));have a:=Y9 (Obj.mapFields (·.setIfInBounds 1 (rawInt ((i:Int)+1)))) f (Obj.isFreed_of_fields nd);have j:(s.heap.update it (Obj.mapFields (·.setIfInBounds 1 (rawInt ((i:Int)+1))))).IsKeyIter it d (i+1) es.size ep:=⟨_,a,(Obj.cls_mapFields ..).trans h,nd⟩;refine J0 (Y1 (J0 (wpAny_isOneOf_keyiter ⟨_,a,(Obj.cls_mapFields ..).trans h⟩ ?_)));exact J7 (J7 ⟨_,rfl,q _ j λb u nb hb=>(m.2 b nb).trans hb⟩)
theorem zkM {Q:Option Value->Shared->Prop}(f:s.heap.get? d=some o) (hd:o.data=.dict es ep) (hi:s.heap.IsKeyIter it d i es.size ep) (g:es[i]?=some e)
  (q:∀ h',h'.IsKeyIter it d (i+1) es.size ep->(∀ b u,b≠it->s.heap.get? b=some u->h'.get? b=some u)->Q (some e.key) { s with heap:=h' }):wpAny (model prog w) A (pyNext (.ref it)) Q E s:=by
 obtain⟨c,j,h,l⟩:=id hi;have ty:s.TypeIs (.ref it) "dict_keyiterator":=⟨c,j,h⟩;unfold pyNext;exact J0 (Zc (wpAny_callSpecial?_slot ty Wh (JV Wh ty F.entry_dict_keyiterator_next (ziY f hd hi g λh' a k=>J7 (q h' a k)) (F.args_dict_keyiterator_next_1 _))))
theorem zjh {Q:Fin->Shared->Prop}(h:A.handled=none) (e:s.heap.get? d=some o) (hd:o.data=.dict es ep) (hi:s.heap.IsKeyIter it d i es.size ep) (j:es[i]?=none)
  (q:∀ h' ev,Heap.ExtBut it s.heap h'->({ s with heap:=h' }:Shared).TypeIs ev "StopIteration"->E ev { s with heap:=h' }) :
  wpAny (model prog w) A (Builtin.«dict_keyiterator.__next__» ⟨[.ref it],[]⟩) Q E s:=by
 obtain⟨g,a,k,f⟩:=id hi;have ty:s.TypeIs (.ref it) "dict_keyiterator":=⟨g,a,k⟩;unfold Builtin.«dict_keyiterator.__next__»;refine J0 ?_;show wpAny _ _ (pure (Value.ref it)) _ _ _;refine J7 (J0 (J0 (J0 (Wd ty (J7 (J0 (wpAny_fieldsOf a f ?_)))))));show wpAny _ _ (Builtin.Dict_items.addrOf (Value.ref d) >>= _) _ _ _;refine J0 (show wpAny _ _ (pure d) _ _ _ from J7 (J0 (Yn e hd ?_)));dsimp only;rw[Ja (c:=((es.size:Int) != (es.size:Int))=true) (by simp)];refine J0 (show wpAny _ _ (pure d) _ _ _ from J7 (J0 (Ys e hd ?_)));rw[Ja (c:=((ep:Int) != (ep:Int))=true) (by simp)];refine J7 ?_;dsimp only;rw[Ja (c:=(i:Int)<0) (by lia),Yt,j];refine J0 (J0 (Wd ty (J7 (J0 ?_))));show wpAny _ _ (setField (.ref it) 0 .none) _ _ _;refine wpAny_setField a f (by show 0<4;lia) (J0 ?_);unfold newExc newTuple;refine J0 (JQ ?_ (by show 0<=sizeLine;exact JS _));unfold firstArgMember;refine J0 (J0 (J7 (J7 (JQ (wpAny_raiseNew_none h ?_) ?_))))
 rotate_left
 ·show (_++_:Array Value).size<=sizeLine+2
  rw[Jw];show 6+0<=sizeLine+2;rw[JM];lia
 refine q _ _ (λb u nb hb=>?_) ⟨_,Jt _ rfl,rfl⟩;exact J8 _ (J8 _ (((YU s.heap it _).2 b nb).trans hb))
theorem zkN {Q:Option Value->Shared->Prop}(c:A.handled=none) (b:s.heap.get? d=some o) (hd:o.data=.dict es ep) (hi:s.heap.IsKeyIter it d i es.size ep) (e:es[i]?=none)
  (q:∀ h',Heap.ExtBut it s.heap h'->Q none { s with heap:=h' }):wpAny (model prog w) A (pyNext (.ref it)) Q E s:=by
 obtain⟨a,g,f,h⟩:=id hi;have ty:s.TypeIs (.ref it) "dict_keyiterator":=⟨a,g,f⟩;unfold pyNext;refine J0 (Zc (wpAny_callSpecial?_slot ty Wh (JV Wh ty F.entry_dict_keyiterator_next (zjh c b hd hi e λh' ev k te=>?_) (F.args_dict_keyiterator_next_1 _))));exact J0 (Zr te isSubtype_stop (J7 (q h' k)))
end
section
variable {X:Cx}{pins:List (Addr × Obj)}{σ:St}{H:Hp}{s:Shared}{d:Addr}{o:Obj}{xs:KVN}
theorem Inv.freezeN (I:Inv X pins σ H s) (hd:H d=some (DN X.prog X.w d xs)):∃ o es ep,s.heap.get? d=some o/\o.ExactDict/\o.data=.dict es ep/\es.size=xs.length/\(d == sysModules)=false/\Inv X pins σ (upd H d (.frz o (DN X.prog X.w d xs))) s:=by
 obtain⟨b,o,es,ep,h1,e,c,l,_⟩:=zkP I.hok (.inl hd);refine⟨o,es,ep,h1,e,c,l,b,I.reword hd (λxs q=>by cases q) (λxs q=>by cases q) (λxs q=>by cases q) (λo' a q=>?_) ⟨h1,(show ObjOk X.prog X.w H s.heap d (DN X.prog X.w d xs) from I.hok d _ hd)⟩⟩;have:=I.base.frzs d o' a q;rw[hd]at this;cases this
theorem Inv.thawN (I:Inv X pins σ H s) (hd:H d=some (.frz o (DN X.prog X.w d xs))) (b:∀ o' a,X.H₀ d≠some (.frz o' a)):Inv X pins σ (upd H d (DN X.prog X.w d xs)) s:=by
 obtain⟨_,r⟩:=(show ObjOk X.prog X.w H s.heap d (.frz o (DN X.prog X.w d xs)) from I.hok d _ hd);exact I.reword hd (λxs q=>by cases q) (λxs q=>by cases q) (λxs q=>by cases q) b r
theorem Inv.meltedN (I:Inv X pins σ H s) {ys:KVN}(hd:H d=some (DN X.prog X.w d ys)):∀ o' a,X.H₀ d≠some (.frz o' a):=λo' a q=>by
 have:=I.base.frzs d o' a q;rw[hd]at this;cases this
theorem Inv.walkedN {es:Array DictEntry}{ep:Nat}(I:Inv X pins σ H s) (hd:H d=some (.frz o (DN X.prog X.w d xs))) (b:o.data=.dict es ep):s.heap.get? d=some o/\∃ vs,Paired PrN xs vs/\es.toList=vs.map (entryOfKey (zbo X.prog X.w)):=by
 obtain⟨g,⟨z,hm,vs,r,o2,e,f,h1,i,a,c,h⟩,_,_⟩:=(show ObjOk X.prog X.w H s.heap d (.frz o (DN X.prog X.w d xs)) from I.hok d _ hd);rw[g]at h1;obtain rfl:=Js h1;rw[b]at a;cases a;exact⟨g,vs,r,c⟩
end
theorem zoo {xs:KVN}{vs:List (KN × Addr × Value)}(r:Paired PrN xs vs):∀ {i:Nat}{p:KN × Addr × V},xs[i]?=some p->∃ q,vs[i]?=some q/\PrN p q:=by
 induction r with
 | nil=>intro i p h;cases h
 | cons q t ih =>
  intro i p h
  cases i with
  | zero=>cases Js h;exact⟨_,rfl,q⟩
  | succ i=>exact ih h
section
variable {prog:Program}{w:World}{A:Around}{E:Value->Shared->Prop}{s:Shared}{d it:Addr}{o:Obj}{es:Array DictEntry}{ep i:Nat}{e:DictEntry}{k0 v0:Value}
theorem zht {Q:Value->Shared->Prop}(t:s.heap.get? d=some o) (hd:o.data=.dict es ep) (hi:IsItemIter s.heap it d i es.size ep k0 v0) (y:es[i]?=some e)
  (q:∀ h',IsItemIterOut h' it d (i+1) es.size ep e.key e.val s.heap.objs.size->h'.get? s.heap.objs.size=some { cls:=.type "tuple",data:=.seq #[e.key,e.val] }->(∀ b u,b≠it->s.heap.get? b=some u->h'.get? b=some u)->Q (.ref s.heap.objs.size) { s with heap:=h' }) :
  wpAny (model prog w) A (Builtin.«dict_itemiterator.__next__» ⟨[.ref it],[]⟩) (λfin s'=>∃ v,fin=.done (.ret v)/\Q v s') E s:=by
 have ty:s.TypeIs (.ref it) "dict_itemiterator":=⟨_,hi,rfl⟩;unfold Builtin.«dict_itemiterator.__next__»;refine J0 ?_;show wpAny _ _ (pure (Value.ref it)) _ _ _;refine J7 (J0 (J0 (J0 (W8 ty (J7 (J0 (wpAny_fieldsOf hi rfl ?_)))))));show wpAny _ _ (Builtin.Dict_items.addrOf (Value.ref d) >>= _) _ _ _;refine J0 (show wpAny _ _ (pure d) _ _ _ from J7 (J0 (Yn t hd ?_)));dsimp only;rw[Ja (c:=((es.size:Int) != (es.size:Int))=true) (by simp)];refine J0 (show wpAny _ _ (pure d) _ _ _ from J7 (J0 (Ys t hd ?_)));rw[Ja (c:=((ep:Int) != (ep:Int))=true) (by simp)];refine J7 ?_;dsimp only;rw[Ja (c:=(i:Int)<0) (by lia),Yt,y];refine J0 (J0 (W8 ty (J7 (J0 (wpAny_isOneOf_itemiter ty ?_)))));show wpAny _ _ (setField (.ref it) 3 (rawInt ((i:Int)+1)) >>= _) _ _ _;refine J0 (Y4 hi (by show 3<8;lia) λh1 g f=>J0 (Y1 (J0 (wpAny_isOneOf_itemiter ⟨_,g,rfl⟩ ?_))));show wpAny _ _ (Builtin.Dict_items.isOneOf _ _ >>= _) _ _ _;refine J0 (wpAny_isOneOf_itemiter ⟨_,g,rfl⟩ ?_);show wpAny _ _ (Builtin.Dict_items.pairFromOwner (.ref it) 6 e.key e.val) _ _ _;unfold Builtin.Dict_items.pairFromOwner newTuple;refine J0 (JQ ?_ (by show 2<=sizeLine;decide));have a:=J8 { cls:=Value.type "tuple",data:=Data.seq #[e.key,e.val] } g;have h:=Jt h1 (o:={ cls:=Value.type "tuple",data:=Data.seq #[e.key,e.val] }) rfl;have p:h1.objs.size≠it:=JT (Jc g);have sz:h1.objs.size=s.heap.objs.size:=f.1;have r:∀ b u,b≠it->s.heap.get? b=some u->(h1.push { cls:=Value.type "tuple",data:=Data.seq #[e.key,e.val] }).get? b=some u:=λb u nb hb=>J8 _ ((f.2 b nb).trans hb);show wpAny (model prog w) A _ _ E { s with heap:=h1.push { cls:=Value.type "tuple",data:=Data.seq #[e.key,e.val] } };generalize h1.push { cls:=Value.type "tuple",data:=Data.seq #[e.key,e.val] }=h2 at a h r;show wpAny _ _ ((field (.ref it) 0 >>= _) >>= _) _ _ _;refine J0 (J0 (Z3 a rfl rfl ?_));show wpAny _ _ (pure true) _ _ _;refine J7 ?_;show wpAny _ _ (field (.ref it) 6 >>= _) _ _ _;refine J0 (Z3 a rfl rfl (J0 (Z3 a rfl rfl ?_)));refine J0 (Y4 a (by show 6<8;lia) λH D m=>J0 (Y4 D (by show 7<8;lia) λG C l=>J0 (Y4 C (by show 0<8;lia) λF B k=>J0 (Y4 B (by show 1<8;lia) λz x j=>J0 (Zt ?_)))));have n:=((m.trans l).trans k).trans j;refine J7 (J7 ⟨_,rfl,?_⟩);show Q (.ref h1.objs.size) _;rw[sz]at h x p ⊢;exact q z x ((n.2 _ p).trans h) λb u nb hb=>(n.2 b nb).trans (r b u nb hb)
theorem ziV {Q:Option Value->Shared->Prop}(a:s.heap.get? d=some o) (hd:o.data=.dict es ep) (hi:IsItemIter s.heap it d i es.size ep k0 v0) (c:es[i]?=some e)
  (q:∀ h',IsItemIterOut h' it d (i+1) es.size ep e.key e.val s.heap.objs.size->h'.get? s.heap.objs.size=some { cls:=.type "tuple",data:=.seq #[e.key,e.val] }->(∀ b u,b≠it->s.heap.get? b=some u->h'.get? b=some u)->Q (some (.ref s.heap.objs.size)) { s with heap:=h' }):wpAny (model prog w) A (pyNext (.ref it)) Q E s:=by
 have ty:s.TypeIs (.ref it) "dict_itemiterator":=⟨_,hi,rfl⟩;unfold pyNext;exact J0 (Zc (wpAny_callSpecial?_slot ty We (JV We ty F.entry_dict_itemiterator_next (zht a hd hi c λh' h g f=>J7 (q h' h g f)) (F.args_dict_itemiterator_next_1 _))))
theorem zhD {Q:Fin->Shared->Prop}(e:A.handled=none) (a:s.heap.get? d=some o) (hd:o.data=.dict es ep) (hi:IsItemIter s.heap it d i es.size ep k0 v0) (f:es[i]?=none)
  (q:∀ h' ev,Heap.ExtBut it s.heap h'->({ s with heap:=h' }:Shared).TypeIs ev "StopIteration"->E ev { s with heap:=h' }) :
  wpAny (model prog w) A (Builtin.«dict_itemiterator.__next__» ⟨[.ref it],[]⟩) Q E s:=by
 have ty:s.TypeIs (.ref it) "dict_itemiterator":=⟨_,hi,rfl⟩;unfold Builtin.«dict_itemiterator.__next__»;refine J0 ?_;show wpAny _ _ (pure (Value.ref it)) _ _ _;refine J7 (J0 (J0 (J0 (W8 ty (J7 (J0 (wpAny_fieldsOf hi rfl ?_)))))));show wpAny _ _ (Builtin.Dict_items.addrOf (Value.ref d) >>= _) _ _ _;refine J0 (show wpAny _ _ (pure d) _ _ _ from J7 (J0 (Yn a hd ?_)));dsimp only;rw[Ja (c:=((es.size:Int) != (es.size:Int))=true) (by simp)];refine J0 (show wpAny _ _ (pure d) _ _ _ from J7 (J0 (Ys a hd ?_)));rw[Ja (c:=((ep:Int) != (ep:Int))=true) (by simp)];refine J7 ?_;dsimp only;rw[Ja (c:=(i:Int)<0) (by lia),Yt,f];refine J0 (J0 (W8 ty (J7 (J0 ?_))));show wpAny _ _ (setField (.ref it) 2 .none) _ _ _;refine wpAny_setField hi rfl (by show 2<8;lia) (J0 ?_);unfold newExc newTuple;refine J0 (JQ ?_ (by show 0<=sizeLine;exact JS _));unfold firstArgMember;refine J0 (J0 (J7 (J7 (JQ (wpAny_raiseNew_none e ?_) ?_))))
 rotate_left
 ·show (_++_:Array Value).size<=sizeLine+2
  rw[Jw];show 6+0<=sizeLine+2;rw[JM];lia
 refine q _ _ (λb u nb hb=>?_) ⟨_,Jt _ rfl,rfl⟩;exact J8 _ (J8 _ (((YU s.heap it _).2 b nb).trans hb))
theorem ziW {Q:Option Value->Shared->Prop}(b:A.handled=none) (a:s.heap.get? d=some o) (hd:o.data=.dict es ep) (hi:IsItemIter s.heap it d i es.size ep k0 v0) (c:es[i]?=none)
  (q:∀ h',Heap.ExtBut it s.heap h'->Q none { s with heap:=h' }):wpAny (model prog w) A (pyNext (.ref it)) Q E s:=by
 have ty:s.TypeIs (.ref it) "dict_itemiterator":=⟨_,hi,rfl⟩;unfold pyNext;refine J0 (Zc (wpAny_callSpecial?_slot ty We (JV We ty F.entry_dict_itemiterator_next (zhD b a hd hi c λh' ev k te=>?_) (F.args_dict_itemiterator_next_1 _))));exact J0 (Zr te isSubtype_stop (J7 (q h' k)))
theorem zhE {v:Addr}{Q:Value->Shared->Prop}(a:s.heap.IsItemsView v d) (b:s.heap.get? d=some o) (hd:o.data=.dict es ep)
  (q:Q (.ref s.heap.objs.size) { s with heap:=s.heap.push { cls:=.type "dict_itemiterator",data:=.fields #[.none,.bool false,.ref d,.int 0 0,.int es.size 0,.int ep 0,.none,.none] } }):wpAny (model prog w) A (pyIter (.ref v)) Q E s:=by
 obtain⟨h,f,g,e⟩:=id a;have ty:=a.typeIs;have nx:=F.slot_dict_itemiterator_next.lookup
 have body:wpAny (model prog w) A.in1 (Builtin.«dict_items.__iter__» ⟨[.ref v],[]⟩) (λfin s'=>∃ v,fin=.done (.ret v)/\∃ c r,s'.TypeIs v c/\typeLookup (Value.type c) (Str.ofString "__next__")=pure (some r)/\Q v s') E s:=by
  unfold Builtin.«dict_items.__iter__» Builtin.Dict_items.newIterator;refine J0 (show wpAny _ _ (pure (Value.ref v)) _ _ _ from J7 (J0 (J0 (Z3 f e rfl ?_))));refine(show wpAny _ _ (pure d) _ _ _ from J7 (J0 ?_));refine J0 (Yn b hd (J0 (Ys b hd ?_)));refine JQ (J7 ⟨_,rfl,_,_,⟨_,Jt _ rfl,rfl⟩,nx,q⟩) ?_;show 8<=sizeLine+2;rw[JM];lia
 exact wpAny_pyIter_slot ty F.slot_dict_items_iter (JV F.slot_dict_items_iter ty F.entry_dict_items_iter body (F.args_dict_items_iter_1 _))
end
def Itni (P:Program) (w:World) (d:Addr) (o:Obj) (xs:KVN):It:=⟨λi H=>H d=some (.frz o (DN P w d xs))/\i<xs.length,λi H x H'=>∃ p T,xs[i]?=some p/\H T=none/\x=.ref T/\H'=upd H T (.tup [.ref p.2.1,p.2.2]),λi H=>H d=some (.frz o (DN P w d xs))/\i=xs.length⟩
theorem zfx {P:Program}{w:World}{K:PySem.W.Frag}{B:List Expr}{k1} {L:Pos}(d it:Addr) (o:Obj) (xs:KVN) {es:Array DictEntry}{ep:Nat}(j:o.data=.dict es ep) (V:es.size=xs.length):Turn P w K (.Tuple B k1 L) (Itni P w d o xs) [it] it (λi h=>∃ a b,IsItemIter h it d i es.size ep a b) where
 mem:=Jd.mpr rfl
 obj:=λi h ⟨a,b,st⟩ c m=>by
  cases Jd.mp m;exact⟨_,st,λv z=>by cases z⟩
 keep:=λi h h' ⟨a,b,st⟩ k=>⟨a,b,k it (Jd.mpr rfl) _ st⟩
 item:=by
  intro X x t y m i pins s σ H E I l ⟨a,b,st⟩ ⟨hd,F⟩;subst x t y;obtain⟨g,vs,r,J⟩:=I.walkedN hd j;have f:=l it (Jd.mpr rfl);obtain⟨p,G⟩:∃ p,xs[i]?=some p:=⟨_,J6 F⟩;obtain⟨q,N,C⟩:=zoo r G;have U:es[i]?=some (entryOfKey (zbo X.prog X.w) q):=by rw[entry_at J,N];rfl
  have D:s.heap.objs.size≠it:=JT (Jc st);refine ziV g j st U λh1 M O n=>⟨_,rfl,wpAny_letOwnedTupleGo_items M λW A s2=>?_⟩;have rk:RelV (.ref p.2.1) (Value.ref q.2.1):=by show Value.ref q.2.1=Value.ref p.2.1;rw[C.2.1]
  refine⟨.ref s.heap.objs.size,upd H s.heap.objs.size (.tup [.ref p.2.1,p.2.2]),I.spunN (t':=s.toks) (fp:=[it]) (λc u hm e=>?_) l (Jg _) (zde ((s2.2 _ D).trans O) rk C.2.2),rfl,⟨p,_,G,I.fresh,rfl,rfl⟩,⟨_,_,A⟩,λc hm=>?_⟩
  ·have ne:c≠it:=λz=>hm (Jd.mpr z)
   exact(s2.2 c ne).trans (n c u ne e)
  ·cases Jd.mp hm
   rw[zag D.symm];exact f.1
 done:=by
  intro X x t y m i pins s σ H E I l ⟨a,b,st⟩ ⟨hd,F⟩;subst x t y;obtain⟨g,vs,r,J⟩:=I.walkedN hd j;obtain⟨T,f1,f2,S,R,Q⟩:=l it (Jd.mpr rfl);exact ziW (I.ok.hd m) g j st (Array.getElem?_eq_none (by lia)) λh' n=>⟨rfl,I.turned (t':=s.toks) (λc u hb e=>n c u hb e) T f1 S R Q⟩
 self:=λ_ _ _ _ _ ⟨_,_,st⟩ h=>PySem.W.kcp_self st h
section
variable {X:Cx}
def zm0 (P:Program) (w:World) (te:TE):TI:=λσ H R=>te σ H λx H1=>∃ d xs,x=.ref d/\H1 d=some (DN P w d xs)/\∀ o,R (Itni P w d o xs) (upd H1 d (.frz o (DN P w d xs)))
theorem zhG {prog:Program}{w:World}{A:Around}{E:Value->Shared->Prop}{s:Shared}{d:Addr}{o:Obj}{Q:Value->Shared->Prop}(c:s.heap.get? d=some o) (a:o.ExactDict) (b:(d == sysModules)=false)
  (q:Q (.ref s.heap.objs.size) { s with heap:=s.heap.push { cls:=.type "dict_items",data:=.fields #[.ref d] } }):wpAny (model prog w) A (call (.builtin "dict.items") [.ref d]) Q E s:=by
 have ty:s.TypeIs (.ref d) "dict":=⟨o,c,a.1⟩;refine JV F.slot_dict_items ty F.entry_dict_items ?_ (F.args_dict_items_1 _);unfold Builtin.«dict.items» Builtin.Dict.showsAll;refine J0 ?_;show wpAny _ _ (Builtin.Dict.notOrdered "items" ⟨[Value.ref d],[]⟩ >>= _) _ _ _;refine J0 (wpAny_notOrdered_dict (s:=s) ty ?_);refine(show wpAny _ _ (pure d) _ _ _ from J7 ?_);rw[Ja (by rw[b];simp)];refine J0 (J7 (J0 (JQ (J7 ⟨_,rfl,q⟩) ?_)));show 1<=sizeLine+2;rw[JM];lia
theorem ziC {l:Expr}{tl:TE}{apos cpos n:Pos}{i:List Expr}{k1} (t:PE X l tl) (c:attributeBase l "items" X.env (eval l X.env)=eval l X.env:=by rfl) (a:(apos.endLine == cpos.line)=true:=by rfl):PI X (.Tuple i k1 n) (.Call (.Attribute l "items" apos) [] [] cpos) (zm0 X.prog X.w tl):=by
 intro pins s σ H R I h;refine wpAny_Call_method0_late c a (thn (t pins s σ H _ I h) λv s1 ⟨x,H1,k,m,d,xs,ex,hd,q⟩=>?_);subst ex;cases m;obtain⟨t1,t2⟩:=ziZ k (.inl hd);obtain⟨o,es,ep,g,p,j,le,r,y⟩:=k.freezeN hd;refine⟨"dict","dict.items",PySem.F.plainAttrs_dict,PySem.F.slot_dict_items,PySem.F.type_dict_items,t1,t2,ZX rfl (PySem.evalArgs_none ?_)⟩;refine zhG g p r ?_;have f:=y.kept (t':=s1.toks) (h':=s1.heap.push { cls:=.type "dict_items",data:=.fields #[.ref d] }) λb u e=>J8 _ e;have w:=J8 { cls:=.type "dict_items",data:=.fields #[.ref d] } g;refine zhE (s:={ s1 with heap:=s1.heap.push { cls:=.type "dict_items",data:=.fields #[.ref d] } }) ⟨_,Jt _ rfl,rfl,rfl⟩ w j ?_;refine⟨_,[_],_,_,_,rfl,f.kept (t':=s1.toks) λb u e=>J8 _ e,zfx d _ o xs j le,⟨_,_,Jt _ rfl⟩,λb hb=>?_,q o⟩;cases Jd.mp hb;exact f.fpOk (Jg _) (f.hok.fresh (Jg _))
end
end L2
namespace L2
open PySem PySem.Spec PyProof.Rows Own PySem.W
section
variable {prog:Program}{w:World}{d:Addr}{o:Obj}{es:Array DictEntry}{ep:Nat}
theorem zke (c:o.ExactDict) (hd:o.data=.dict es ep) (j:(d == sysModules)=false):KdlSrc prog w "dict" d d es.size (λi v=>∃ e,es[i]?=some e/\v=e.key) (λh=>h.get? d=some o) where
 type:=λs a=>⟨o,a,c.1⟩
 there:=λh a=>⟨Jc a,Jc a⟩
 keep:=λh h' a k=>k d (.inl rfl) _ a
 notList:=by decide
 notTuple:=by decide
 hint:=λA E s Q a q=>by
  have ty:s.TypeIs (.ref d) "dict":=⟨o,a,c.1⟩;show wpAny _ _ (specialOf (.ref d) _ >>= _) _ _ _;refine J0 (Zj (T:="dict") ty F.slot_dict_len.lookup ?_);show wpAny _ _ (isInstance (.ref d) (.type "dict") >>= _) _ _ _;refine J0 (Zr (T:="dict") (b:=true) ty rfl ?_);show wpAny _ _ (typeOf (.ref d) >>= _) _ _ _;exact J0 (YQ ty (J7 q))
 iter:=λA s l a=>by
  refine⟨{ cls:=.type "dict_keyiterator",data:=.fields #[.ref d,.int 0 0,.int es.size 0,.int ep 0] },λi h=>h.IsKeyIter s.heap.objs.size d i es.size ep/\h.get? d=some o,λE Q q=>zjn a c hd j q,?_,⟨_,Jt _ rfl,rfl,rfl⟩,J8 _ a⟩;have nd:d≠s.heap.objs.size:=JA (Jc a);refine⟨λb hb=>Jh.mpr (.inl (Jd.mp hb)),λi h h' st k=>⟨st.1.at (k _ JC),k d (JB _ JC) _ st.2⟩,λi s1 Q E g st q=>?_,λs1 Q E st q=>?_,λi s1 Q E st q=>wpAny_pyIter_keyiter st.1 q⟩
  ·have f:es[i]?=some es[i]:=ZK g
   exact zkM st.2 hd st.1 f λh' st' k=>q _ h' s1.toks ⟨_,f,rfl⟩ ⟨st',k d o nd st.2⟩ λb u nb hb=>k b u (λz=>nb (Jd.mpr z)) hb
  ·exact zkN l st.2 hd st.1 (Array.getElem?_eq_none (Jg _)) λh' k=>q h' s1.toks λb u nb hb=>k b u (λz=>nb (Jd.mpr z)) hb
end
end L2
namespace L2
open PySem PySem.Spec PyProof.Rows Own Ts PySem.W
section
variable {prog:Program}{w:World}{A:Around}{s:Shared}
theorem zk8 {Q:Bool->Shared->Prop}(cs:List Ordering):∀ (us vs:List Value) (i:Nat),us.length=cs.length->vs.length=cs.length->(∀ (j:Nat) u v c,us[j]?=some u->vs[j]?=some v->cs[j]?=some c->SeqAt.EqAt A s u v (c == .eq)/\(c≠.eq->LtAt A s u v (c == .lt))) ->
  Q (cs.foldr Ordering.then .eq == .lt) s->PySem.W.KatLex prog w A false false Q (us.zip vs) i s:=by
 induction cs with
 | nil =>
  intro us vs i l1 l2 _ q;rw[ZU.mp l1]
  exact PySem.W.kat_nil q
 | cons c cs ih =>
  intro us vs i l1 l2 h q
  obtain⟨u,us,rfl⟩:∃ u b,us=u::b:=by
   cases us with
   | nil=>simp at l1
   | cons u us=>exact⟨u,us,rfl⟩
  obtain⟨v,vs,rfl⟩:∃ v a,vs=v::a:=by
   cases vs with
   | nil=>simp at l2
   | cons v vs=>exact⟨v,vs,rfl⟩
  have d:=h 0 u v c rfl rfl rfl;refine PySem.W.kat_cons (d.1 prog w _ _ ?_);by_cases z:c=.eq
  ·subst z
   refine PySem.W.kat_yes (ih us vs (i+1) (by simpa using l1) (by simpa using l2) (λj u v c k g f=>h (j+1) u v c (by simpa using k) (by simpa using g) (by simpa using f)) q)
  ·have e:(c == Ordering.eq)=false:=by simpa using z
   have e2:(c::cs).foldr Ordering.then .eq=c:=by
    rw[List.foldr_cons];cases c<;>first|rfl|exact absurd rfl z
   rw[e2]at q;rw[e];refine PySem.W.kat_no ?_;rw[Bool.false_and];exact zgG (d.2 z) q
end
def RkN (H:Hp) (xs:List V) (rk:V->Int):Prop:=∃ n,n<=20/\∀ x∈xs,(∃ a b r ys,x=.ref a/\H a=some (.tup (.ref b::r))/\H b=some (.tup ys))/\∀ y∈xs,Lx H n x y (compare (rk x) (rk y))
section
variable {X:Cx}
theorem zoE {pins:List (Addr × Obj)}{σ:St}{H:Hp}{s1:Shared}(I:Inv X pins σ H s1) (t:X.A.units+64<cLine) {xs:List V}{vs:List Value}{rk:V->Int}(r:Vals xs vs) (R:RkN H xs rk) :
  ∃ κ:SortKind,(∀ h':Heap,(∀ c o,s1.heap.get? c=some o->h'.get? c=some o)->2<=vs.length->∀ (d:Around) {Q:SortKind->Shared->Prop}{E:Value->Shared->Prop},Q κ { s1 with heap:=h' }->wpAny (model X.prog X.w) d (keyKind' vs.toArray) Q E { s1 with heap:=h' }) /\
   (∀ h':Heap,(∀ c o,s1.heap.get? c=some o->h'.get? c=some o)->∀ (d:Around),d.units<=X.A.units+8->Cmp X.prog X.w d { s1 with heap:=h' } κ (λp=>p.1∈vs) (λp=>rk (vOf p.1))):=by
 obtain⟨n,hn,R⟩:=R
 obtain⟨ex,rel⟩:=zcZ r λx F=>by
  obtain⟨⟨a,b,r,ys,e,_⟩,_⟩:=R x F;exact .inr ⟨a,e⟩
 have mem:∀ u∈vs,vOf u∈xs:=λu t=>by rw[ex];exact JH.mpr ⟨u,t,rfl⟩
 refine⟨tuples' (Value.type "tuple" != Value.type "tuple"),λh' k l2 d Q E q=>?_,λh' k d hA=>⟨λx y F M Q E q=>?_⟩⟩
 ·have l:Inv X pins σ H { s1 with heap:=h',toks:=s1.toks }:=I.kept k
  have kt:∀ us:List Value,(∀ u∈us,vOf u∈xs/\RelV (vOf u) u)->∃ fs,PySem.W.KatTups h' us fs/\fs.length=us.length/\∀ f∈fs,∃ b ys,f=Value.ref b/\H b=some (.tup ys):=by
   intro us
   induction us with
   | nil=>intro _;exact⟨[],PySem.W.KatTups.nil,rfl,λf w=>by simp at w⟩
   | cons u us ih =>
    intro h;obtain⟨fs,K,k2,J⟩:=ih λv m=>h v (JB _ m);obtain⟨m1,r1⟩:=h u JC;obtain⟨⟨a,b,rr,ys,e,ha,hb⟩,_⟩:=R _ m1;rw[e]at r1;cases r1;obtain⟨its,g,⟨o,N,co,no,dt⟩,_⟩:=l.tuple (SqT.of ha);obtain⟨f0,ef,rf⟩:=g.get (i:=0) (x:=.ref b) rfl;cases rf
    exact⟨_,PySem.W.KatTups.cons N co dt (by simpa using ef) K,by rw[JW,JW,k2],λf' w=>by
     rcases Jh.mp w with here|w
     ·exact⟨b,ys,here,hb⟩
     ·exact J f' w⟩
  obtain⟨fs,K,k2,J⟩:=kt vs λu t=>⟨mem u t,rel u t⟩;refine PySem.W.kat_kind (T:=.type "tuple") K (by lia) (λv m=>?_) (by decide) q;obtain⟨b,ys,rfl,hb⟩:=J v m;obtain⟨its,g,⟨o,N,co,no,dt⟩,_⟩:=l.tuple (SqT.of hb);exact λA Q E s ks q=>YQ ⟨o,ks _ _ N,co⟩ q
 ·have l:Inv X pins σ H { s1 with heap:=h',toks:=s1.toks }:=I.kept k
  obtain⟨Y,x2⟩:=x;obtain⟨G,y2⟩:=y;have rx:=rel Y F;have Z:=rel G M;obtain⟨⟨a,a2,xr,_,ea,ha,_⟩,lx⟩:=R _ (mem Y F);obtain⟨⟨b,b2,yr,_,eb,hb,_⟩,_⟩:=R _ (mem G M);have L:=lx _ (mem G M);simp only at q;rw[ea]at rx L q;rw[eb]at Z L q;cases rx;cases Z;generalize hc:compare (rk (V.ref a)) (rk (V.ref b))=c at L;rw[<- (zb3 (rk (V.ref a)) (rk (V.ref b))).2,hc]at q
  cases L with
  | @row n _ _ ab aa cs D C l1 l2 hL =>
   rw[ha]at D;cases D;rw[hb]at C;cases C;obtain⟨its,g1,⟨o1,S,ag,ae,W⟩,_⟩:=l.tuple (SqT.of ha);obtain⟨z,g2,⟨o2,P,af,ad,U⟩,_⟩:=l.tuple (SqT.of hb);have m1:=g1.length;have m2:=g2.length;show wpAny _ _ (keyLt' (tuples' false) (.ref a) (.ref b)) _ _ _;refine PySem.W.kat_lt S W P U ?_;have ds:decide (its.toArray.size<z.toArray.size)=false:=Jv (by rw[Jj,Jj];lia);rw[ds];refine zk8 cs its z 0 (by lia) (by lia) (λj u v c B m O=>?_) q;have j1:j<(V.ref a2::xr).length:=by have:=(J9.mp B).1;lia
   have j2:j<(V.ref b2::yr).length:=by have:=(J9.mp m).1;lia
   obtain⟨u',e1,q1⟩:=g1.get (J6 j1);obtain⟨v',e2,q2⟩:=g2.get (J6 j2);rw[B]at e1;obtain rfl:=Js e1;rw[m]at e2;obtain rfl:=Js e2;have LL:=hL j _ _ c (J6 j1) (J6 j2) O;exact⟨zi6 l LL d _ _ (by lia) q1 q2,λne=>zmM l LL ne d _ _ (by lia) q1 q2⟩
theorem zlN {xs:KVN}{ws:List (KN × Addr × Value)}(r:Paired PrN xs ws):Vals (xs.map λp=>V.ref p.2.1) (ws.map λq=>Value.ref q.2.1):=by
 induction r with
 | nil=>exact .nil
 | @cons p q ps a h t ih=>exact .cons (by show Value.ref q.2.1=Value.ref p.2.1;rw[h.2.1]) ih
theorem zlp {es:Array DictEntry}{acc:Array Value}(a:acc.size=es.size) (d:∀ (j:Nat) (v:Value),acc[j]?=some v->∃ e,es[j]?=some e/\v=e.key):acc.toList=es.toList.map (·.key):=by
 refine W5 (by rw[Jm,Ju,Ju,a]) λj b f=>?_;obtain⟨e,h1,c⟩:=d j acc[j] (ZK _);rw[List.getElem_map,Array.getElem_toList,Array.getElem_toList,c];rw[ZK (by rw[<- a];exact b)]at h1;rw[Js h1]
theorem zfm (C:X.calm=true) (d:X.A.units+64<cLine):CallR X (.builtin "sorted") (λvs H Q=>∃ a xs rk,vs=[.ref a]/\H a=some (DN X.prog X.w a xs)/\xs.length<=10000/\RkN H (xs.map λp=>.ref p.2.1) rk/\∀ (l:Addr) (ys:List V),H l=none->ys.Perm (xs.map λp=>.ref p.2.1)->ys.Pairwise (λx y=>rk x<=rk y)->Q (.ref l) (upd H l (.lst ys))):=by
 intro pins s σ H vs us Q I n h;obtain⟨a,xs,rk,rfl,hd,hz,R,q⟩:=h;obtain⟨u,rfl,t⟩:=n.one;cases t;obtain⟨⟨z,D,ws,r,o,es,ep,h1,F,E,j,K⟩,_,_⟩:=(show ObjOk X.prog X.w H s.heap a (DN X.prog X.w a xs) from I.hok a _ hd);have wl:es.size=xs.length:=by rw[ZR j,<- Z0 r]
 refine zik (kdu_collect (zke F E D) (I.ok.hd C) h1 (by rw[wl];exact z) λh1 tk acc A b=>?_);obtain⟨k,J⟩:=b
 have al:acc.toList=ws.map λq=>Value.ref q.2.1:=by
  rw[zlp k J,j,Zv];rfl
 have vs:Vals (xs.map λp=>V.ref p.2.1) acc.toList:=by rw[al];exact zlN r
 have v:acc.toList.length=xs.length:=by rw[Ju,k,wl]
 have f:Inv X pins σ H { s with heap:=h1,toks:=tk }:=I.kept A;obtain⟨κ,g,i⟩:=zoE f d vs R
 obtain⟨ex,rel⟩:=zcZ vs λx B=>by
  obtain⟨p,_,rfl⟩:=JH.mp B;exact .inr ⟨_,rfl⟩
 refine⟨κ,λu=>rk (vOf u),by lia,g,i,λh' l e out lo G pm so w=>?_⟩;have m:Vals (out.map vOf) out:=zc0 λu d=>rel u (pm.mem_iff.mp d);have pv:(out.map vOf).Perm (xs.map λp=>V.ref p.2.1):=by rw[ex];exact pm.map vOf
 refine⟨.ref l,_,f.laid (t':=tk) (o:=.lst (out.map vOf)) (λc o q=>w c o q) lo ⟨?_,out,e,m,G⟩,rfl,?_⟩
 ·rw[Jm,pm.length_eq,v];exact z
 ·exact q l _ (f.hok.fresh lo) pv (List.pairwise_map.mpr so)
end
end L2
namespace L2
open PySem PySem.Spec PyProof.Rows Own
section
def le2 (p q a b:Int):Prop:=p<a\/p=a/\q<=b
end
theorem zhB (l b:Addr) (xs ys:Array Value) (n m:Nat) (B v:Option Addr) (e c:Array (Option Value)) (sz:xs.size=ys.size) :
  Meets (Builtin.«tuple.__lt__» ⟨[.ref l,.ref b],[]⟩)
   (λA R s=>s.heap.get? l=some { cls:=.type "tuple",dict:=B,data:=.seq xs n,slots:=e }/\s.heap.get? b=some { cls:=.type "tuple",dict:=v,data:=.seq ys m,slots:=c } /\
    (∀ j (h1:j<xs.size) (E:j<ys.size),SeqAt.EqAt A.in1 s xs[j] ys[j] true)/\R (.ok (.ret (.bool false))) s) :=
 .of_wp λprog w A R s h=>by
  rcases h with ⟨r,hb,t,h⟩;rcases s with ⟨q,g,d,tk,os⟩;have kinds:=AutoSeq1.sub_tuple_tuple;have D:(xs.toList.zip ys.toList).length=min xs.size ys.size:=by simp
  wp_walk using wpAny_loadPart' r,wpAny_loadPart' hb,wpAny_forIn_list _ (λrest b s'=>b.1=none/\s'=⟨q,g,d,tk,os⟩/\∃ i,i<=(xs.toList.zip ys.toList).length/\rest=(xs.toList.zip ys.toList).drop i) _
  case turn =>
   rintro⟨y,x⟩ rest b s' ⟨a,rfl,i,p,hz⟩
   have o:i<(xs.toList.zip ys.toList).length:=by
    rcases Nat.lt_or_ge i (xs.toList.zip ys.toList).length with z|z
    ·exact z
    ·rw[List.drop_eq_nil_of_le z]at hz;cases hz
   have i1:i<xs.size:=by lia
   have i2:i<ys.size:=by lia
   rw[YX o]at hz;obtain⟨k,e2⟩:=Wa hz;have u:y=xs[i]:=by simpa using JR Prod.fst k
   have ex:x=ys[i]:=by simpa using JR Prod.snd k
   subst u ex;refine J0 (t i i1 i2 prog w _ _ ?_)
   wp_walk
   exact⟨rfl,rfl,i+1,by lia,e2⟩
  case fin =>
   rintro⟨C,F⟩ s' ⟨a,rfl,i,p,hz⟩;have f:C=none:=a;subst f;have fl:Builtin.Tuple.tupleCompareSizes CmpOp.Lt xs.size ys.size=.bool false:=by rw[sz];simp[Builtin.Tuple.tupleCompareSizes]
   show wpAny _ _ (ret (Builtin.Tuple.tupleCompareSizes CmpOp.Lt xs.size ys.size)) _ _ _;rw[fl];exact J7 ⟨_,rfl,h⟩
  case h =>
   exact⟨rfl,rfl,0,JS _,rfl⟩
theorem LtAt.tuplesS {A:Around}{s:Shared}{l b:Addr}{xs ys:Array Value}(o:IsTup s.heap l xs) (hb:IsTup s.heap b ys) (k:A.units<cLine) (sz:xs.size=ys.size)
  (p:∀ j (h1:j<xs.size) (v:j<ys.size),SeqAt.EqAt A.in1 s xs[j] ys[j] true):LtAt A s (.ref l) (.ref b) false:=λprog w E Q h=>by
 obtain⟨⟨u,e,r,c⟩,o1,i,n,f⟩:=o;obtain⟨⟨t,d,q,a⟩,o2,g,m,e2⟩:=hb;simp only at i f g e2;subst i f g e2;exact richCompare_meets_room (op:=.Lt) ⟨_,o1,rfl⟩ ⟨_,o2,rfl⟩ F.slot_tuple_lt F.entry_tuple_lt (F.args_tuple_lt_2 _ _) (zhB l b xs ys n m e d c a sz) ⟨o1,o2,p,show Value.bool false≠Value.notImplemented/\Q (.bool false) s from⟨(λx=>nomatch x),h⟩⟩ k
section
variable {X:Cx}
theorem zmN {pins:List (Addr × Obj)}{σ:St}{H:Hp}{s:Shared}(I:Inv X pins σ H s) {n:Nat}{x y:V}{c:Ordering}(h:Lx H n x y c) (A:Around) (u v:Value) (F:A.units+n<cLine) (g:RelV x u) (f:RelV y v):LtAt A s u v (c == .lt):=by
 by_cases z:c=.eq
 ·cases h with
  | int n i j =>
   obtain⟨t1,rfl⟩:=g;obtain⟨t2,rfl⟩:=f;rw[(zb3 i j).2]
   exact LtAt.ints i j t1 t2
  | @row n a b xs ys cs ha hb l1 l2 h =>
   cases g;cases f;obtain⟨its,o,w,_⟩:=I.tuple (SqT.of ha);obtain⟨k,m,p2,_⟩:=I.tuple (SqT.of hb);have C:=o.length;have B:=m.length;rw[z];refine LtAt.tuplesS w p2 (by lia) (by rw[Jj,Jj];lia) λj E D=>?_;have e:j<xs.length:=by simpa [C] using E
   have d:j<ys.length:=by simpa [B] using D
   have l:j<cs.length:=by lia
   obtain⟨q,G,t⟩:=o.get (J6 e);obtain⟨p,e2,r⟩:=m.get (J6 d);have z1:its.toArray[j]=q:=by simpa using (J9.mp G).2
   have z2:k.toArray[j]=p:=by simpa using (J9.mp e2).2
   have ce:cs[j]=.eq:=zc1.mp z _ (Yr l);have:=zi6 I (h j _ _ _ (J6 e) (J6 d) (J6 l)) A.in1 _ _ (by show A.units+1+n<cLine;lia) t r;rw[ce]at this;rw[z1,z2];exact this
 ·exact zmM I h z A u v F g f
end
section
variable {prog:Program}{w:World}{A:Around}{R:Result->Shared->Prop}{I S:Addr}{fp wr:List Addr}{n:Nat}{P:Nat->Value->Prop}{St:Nat->Heap->Prop}
def AskM (prog:Program) (w:World) (A:Around) (a:Shared) (wr:List Addr) (S:Addr) (v d:Value) (c:Bool):Prop :=
 ∀ (h:Heap) (tk:Nat) (Q:Value->Shared->Prop) (E:Value->Shared->Prop),(∀ b o,b∉wr->b≠S->a.heap.get? b=some o->h.get? b=some o)->Q (.bool c) { a with heap:=h,toks:=tk }->wpAny (model prog w) A.in1 (richCompare .Lt v d) Q E { a with heap:=h,toks:=tk }
theorem ze1 (W:Walks prog w A.in1 I fp wr n P St) (away:S∉fp) (l:Shared) (i:Nat->Value->Prop)
  (more:∀ j v a,0<j->P j v->i j a->∃ c:Bool,i (j+1) (if c=true then v else a)/\AskM prog w A l wr S v a c) :
  ∀ (m j:Nat) (h:Heap) (tk:Nat) (c:Nat) (a:Value),j+m=n->0<j->i j a->St j h->h.get? S=some { cls:=.type "list",dict:=none,data:=.seq #[a,a] c,slots:=#[] }->(∀ b o,b∉wr->b≠S->l.heap.get? b=some o->h.get? b=some o) ->
   (∀ u h' t,i n u->(∀ b o,b∉wr->b≠S->l.heap.get? b=some o->h'.get? b=some o)->R (.ok (.ret u)) { l with heap:=h',toks:=t })->codeAny (model prog w) A (.builtin "min.loop" ⟨[.ref I,.none,.ref S],[]⟩) R { l with heap:=h,toks:=tk }:=by
 have out:S∉wr:=λz=>away (W.sub _ z);have nm:(toString "min"++toString ".loop":String) = "min.loop":=by decide
 intro m
 induction m with
 | zero =>
  intro j h tk c a x jp bs st r old k;have y:j=n:=by lia
  subst y
  refine Zk F.entry_min_loop (by
   refine Z5 YZ _ ▸ (show wpAny _ A.in1 (seqItems? (.ref S) >>= _) _ _ _ from ?_);refine J0 (Y3 r rfl (show wpAny _ A.in1 (tryCatch (pyNext (.ref I)) _ >>= _) _ _ _ from J0 (wpAny_tryCatch (W.done { l with heap:=h,toks:=tk } _ _ st λh1 q keep=>?_))));have d:=keep S _ out r
   show wpAny _ A.in1 (updateSeq S (λ_=>#[]) >>= _) _ _ _;exact J0 (Za d rfl (J0 (Zt (J7 (k _ _ q bs λb o hb p e=>(JZ _ _ (Ne.symm p)).trans (keep b o hb (old b o hb p e))))))))
 | succ m ih =>
  intro j h tk c a x jp bs st r old k
  refine Zk F.entry_min_loop (by
   refine Z5 YZ _ ▸ (show wpAny _ A.in1 (seqItems? (.ref S) >>= _) _ _ _ from ?_);refine J0 (Y3 r rfl (show wpAny _ A.in1 (tryCatch (pyNext (.ref I)) _ >>= _) _ _ _ from J0 (wpAny_tryCatch (W.item j { l with heap:=h,toks:=tk } _ _ (by lia) st λv h1 q pv s keep=>?_))));have d:=keep S _ out r;have f:∀ b o,b∉wr->b≠S->l.heap.get? b=some o->h1.get? b=some o:=λb o hb p e=>keep b o hb (old b o hb p e);obtain⟨B,g,ask⟩:=more j v a jp pv bs;show wpAny _ A.in1 (tryCatch (holding [v,v] (richCompare .Lt v a >>= _)) _ >>= _) _ _ _;refine J0 (wpAny_tryCatch (Y1 (J0 (ask h1 q _ _ f (J0 (Y1 (ZV (J0 (Zt (J7 ?_))))))))))
   cases B with
   | false =>
    rw[Ja Jq]at g;rw[Ja Jq];refine J0 (Zt ?_);rw[nm]
    exact J7 ⟨ZB YZ _,ih (j+1) _ _ _ a (by lia) (by lia) g s d f k⟩
   | true =>
    rw[Jf rfl]at g;rw[Jf rfl];refine J0 (Za d rfl (J0 (Zt ?_)));rw[nm]
    exact J7 ⟨ZB YZ _,ih (j+1) _ _ _ v (by lia) (by lia) g (W.frame _ _ _ s λb hb o e=>(JZ _ _ (λz=>away (by rw[z];exact hb))).trans e) (Y9 _ d rfl) (λb o hb p e=>(JZ _ _ (Ne.symm p)).trans (f b o hb p e)) k⟩)
end
section
variable {prog:Program}{w:World}{A:Around}{E:Value->Shared->Prop}{s:Shared}
def WalkM (prog:Program) (w:World) (A:Around) (Q:Value->Shared->Prop) (it:Value) (s2:Shared):Prop :=
 ∃ (I:Addr) (fp wr:List Addr) (n:Nat) (P:Nat->Value->Prop) (St:Nat->Heap->Prop),it=.ref I/\Walks prog w A.in1 I fp wr n P St/\St 0 s2.heap/\(∀ b∈fp,b<s2.heap.objs.size)/\0<n /\
   ∃ a:Nat->Value->Prop,(∀ v,P 0 v->a 1 v)/\(∀ j v d,0<j->P j v->a j d->∃ c:Bool,a (j+1) (if c=true then v else d)/\AskM prog w A s2 wr s2.heap.objs.size v d c) /\
   ∀ u h' tk,a n u->(∀ b o,b∉wr->s2.heap.get? b=some o->h'.get? b=some o)->Q u { s2 with heap:=h',toks:=tk }
theorem zi1 {x:Value}{Q:Value->Shared->Prop}(h:wpAny (model prog w) A.in1 (pyIter x) (WalkM prog w A Q) E s):wpAny (model prog w) A (call (.builtin "min") [x]) Q E s:=by
 have nm:(toString "min"++toString ".loop":String) = "min.loop":=by decide
 refine call_function_tree F.kind_min F.plain_min F.entry_min (F.args_min1 _) ?_;show wpAny _ A.in1 (Builtin.Builtins.bindParams "min" ["key","default"] 0 ⟨[],[]⟩ >>= _) _ _ s;refine J0 (wpAny_of_eq (show Builtin.Builtins.bindParams "min" ["key","default"] 0 ⟨[],[]⟩=pure [none,none] from rfl) (J0 (J7 (J0 (JU h (λit s2 z=>?_) λ_ _ e=>e)))));obtain⟨I,fp,wr,n,P,St,rfl,W,st,low,pos,g,first,more,k⟩:=z;have away:s2.heap.objs.size∉fp:=λz=>Yz _ (low _ z);have out:s2.heap.objs.size∉wr:=λz=>away (W.sub _ z);refine J0 (JQ ?_);rw[nm];refine J7 ⟨ZB YZ _,Zk F.entry_min_loop ?_⟩;have new:(s2.heap.push { cls:=.type "list",data:=.seq #[] }).get? s2.heap.objs.size=some { cls:=.type "list",dict:=none,data:=.seq #[] 0,slots:=#[] }:=Jt _ rfl;have st':St 0 (s2.heap.push { cls:=.type "list",data:=.seq #[] }):=W.frame _ _ _ st λb _ o e=>J8 _ e;refine Z5 YZ _ ▸ (show wpAny _ A.in1 (seqItems? (.ref s2.heap.objs.size) >>= _) _ _ _ from ?_);refine J0 (Y3 new rfl (show wpAny _ A.in1 (tryCatch (pyNext (.ref I)) _ >>= _) _ _ _ from J0 (wpAny_tryCatch (W.item 0 _ _ _ pos st' λv h1 p pv f keep=>?_))));have m:=first v pv
 have a:=keep _ _ out new;show wpAny _ A.in1 (updateSeq s2.heap.objs.size (λ_=>#[v,v]) >>= _) _ _ _;refine J0 (Za a rfl ?_);rw[nm];have up:∀ b o,b∉wr->b≠s2.heap.objs.size->s2.heap.get? b=some o->(h1.update s2.heap.objs.size (Obj.mapSeq λ_=>#[v,v])).get? b=some o:=λb o hb l e=>(JZ _ _ (Ne.symm l)).trans (keep b o hb (J8 _ e));exact J7 ⟨ZB YZ _,ze1 W away s2 g more (n-1) 1 _ _ _ v (by lia) (by lia) m (W.frame _ _ _ f λb hb o e=>(JZ _ _ (λz=>away (by rw[z];exact hb))).trans e) (Y9 _ a rfl) up λu i d j c=>k u i d j λb o hb e=>c b o hb (JA (Jc e)) e⟩
theorem zkS {x y:Value}{Q:Value->Shared->Prop}(h:wpAny (model prog w) A.in1 (pyIter (.ref s.heap.objs.size)) (WalkM prog w A Q) E { s with heap:=s.heap.push { cls:=.type "tuple",data:=.seq #[x,y] } }):wpAny (model prog w) A (call (.builtin "min") [x,y]) Q E s:=by
 have nm:(toString "min"++toString ".loop":String) = "min.loop":=by decide
 refine call_function_tree F.kind_min F.plain_min F.entry_min (F.args_min2 _ _) ?_;show wpAny _ A.in1 (Builtin.Builtins.bindParams "min" ["key","default"] 0 ⟨[],[]⟩ >>= _) _ _ s;refine J0 (wpAny_of_eq (show Builtin.Builtins.bindParams "min" ["key","default"] 0 ⟨[],[]⟩=pure [none,none] from rfl) (J0 ?_));refine Wv (J0 (JU h (λit s2 z=>?_) λ_ _ e=>e));obtain⟨I,fp,wr,n,P,St,rfl,W,st,low,pos,g,first,more,k⟩:=z;have away:s2.heap.objs.size∉fp:=λz=>Yz _ (low _ z);have out:s2.heap.objs.size∉wr:=λz=>away (W.sub _ z);refine J0 (JQ ?_);rw[nm];refine J7 ⟨ZB YZ _,Zk F.entry_min_loop ?_⟩;have new:(s2.heap.push { cls:=.type "list",data:=.seq #[] }).get? s2.heap.objs.size=some { cls:=.type "list",dict:=none,data:=.seq #[] 0,slots:=#[] }:=Jt _ rfl;have st':St 0 (s2.heap.push { cls:=.type "list",data:=.seq #[] }):=W.frame _ _ _ st λb _ o e=>J8 _ e;refine Z5 YZ _ ▸ (show wpAny _ A.in1 (seqItems? (.ref s2.heap.objs.size) >>= _) _ _ _ from ?_);refine J0 (Y3 new rfl (show wpAny _ A.in1 (tryCatch (pyNext (.ref I)) _ >>= _) _ _ _ from J0 (wpAny_tryCatch (W.item 0 _ _ _ pos st' λv h1 p pv f keep=>?_))));have m:=first v pv
 have a:=keep _ _ out new;show wpAny _ A.in1 (updateSeq s2.heap.objs.size (λ_=>#[v,v]) >>= _) _ _ _;refine J0 (Za a rfl ?_);rw[nm];have up:∀ b o,b∉wr->b≠s2.heap.objs.size->s2.heap.get? b=some o->(h1.update s2.heap.objs.size (Obj.mapSeq λ_=>#[v,v])).get? b=some o:=λb o hb l e=>(JZ _ _ (Ne.symm l)).trans (keep b o hb (J8 _ e));exact J7 ⟨ZB YZ _,ze1 W away s2 g more (n-1) 1 _ _ _ v (by lia) (by lia) m (W.frame _ _ _ f λb hb o e=>(JZ _ _ (λz=>away (by rw[z];exact hb))).trans e) (Y9 _ a rfl) up λu i d j c=>k u i d j λb o hb e=>c b o hb (JA (Jc e)) e⟩
end
def zb1 (cmp:V->V->Ordering) (b y:V):V:=if cmp y b=.lt then y else b
def zbS (cmp:V->V->Ordering):List V->V
 | []=>.non
 | x::r=>r.foldl (zb1 cmp) x
theorem zj0 (cmp:V->V->Ordering) {l:List V}(h:l≠[]) (y:V):zbS cmp (l++[y])=zb1 cmp (zbS cmp l) y:=by
 cases l with
 | nil=>exact absurd rfl h
 | cons x r=>show List.foldl _ _ (r++[y])=_;rw[Z6];rfl
theorem zgY (cmp:V->V->Ordering):∀ (r:List V) (x:V),r.foldl (zb1 cmp) x∈x::r
 | [],x=>.head _
 | y::r,x=>by
  have:=zgY cmp r (zb1 cmp x y);show List.foldl (zb1 cmp) (zb1 cmp x y) r∈x::y::r;rcases Jh.mp this with z|z
  ·rw[z]
   unfold zb1;split
   ·exact .tail _ (.head _)
   ·exact .head _
  ·exact .tail _ (.tail _ z)
theorem zln (cmp:V->V->Ordering) {l:List V}(h:l≠[]):zbS cmp l∈l:=by
 cases l with
 | nil=>exact absurd rfl h
 | cons x r=>exact zgY cmp r x
section
variable {X:Cx}{pins:List (Addr × Obj)}{σ:St}{H:Hp}{s:Shared}
theorem zgr {b:Bool}{a:Addr}{xs:List V}{its:List Value}{n:Nat}{cmp:V->V->Ordering}{Q:VK}(F:X.calm=true) (P:X.A.units+64<cLine) (I:Inv X pins σ H s) (l:Vals xs its) (pp:SqO b s.heap a its.toArray) (al:a<s.heap.objs.size) (k:0<xs.length) (N:n<=20) (G:∀ x∈xs,∀ y∈xs,Lx H n x y (cmp x y)) (q:Q (zbS cmp xs) H) :
  wpAny (model X.prog X.w) X.A.in1 (pyIter (.ref a)) (WalkM X.prog X.w X.A (EP X pins σ Q)) X.xe s:=by
 have R:its.length=xs.length:=l.length.symm;refine zcG pp ⟨s.heap.objs.size,[s.heap.objs.size,a],[s.heap.objs.size],its.toArray.size,(λi v=>its.toArray[i]?=some v),_,rfl,znf (show X.A.in1.handled=none from I.ok.hd F) b _ a (JA al) its.toArray,⟨?_,pp.mv λo e=>J8 _ e⟩,λc hm=>?_,by rw[Jj];lia,(λj v=>0<j/\j<=xs.length/\RelV (zbS cmp (xs.take j)) v),λv p=>?_,λj v A jp p ⟨_,O,t⟩=>?_,λu h' tk ⟨_,_,f⟩ E=>?_⟩
 ·cases b<;>exact⟨_,Jt _ rfl,rfl,rfl⟩
 ·show c<(s.heap.push _).objs.size
  rw[Z4];rcases Jh.mp hm with z|z
  ·exact z ▸ Nat.lt_succ_self _
  ·exact Jd.mp z ▸ ZE al
 ·have D:xs[0]?=some xs[0]:=J6 k
  obtain⟨B,g,f⟩:=l.get D;have d:its[0]?=some v:=by simpa using p
  rw[d]at g;cases g;refine⟨by lia,k,?_⟩
  cases xs with
  | nil=>cases k
  | cons x r=>exact f
 ·have d:its[j]?=some v:=by simpa using p
  have m:j<xs.length:=by
   have:=(J9.mp d).1;lia
  obtain⟨B,g,f⟩:=l.get (J6 m);rw[d]at g;cases g
  have ne:xs.take j≠[]:=λz=>by
   have:=JR List.length z;rw[JE,Wg]at this;lia
  have bm:zbS cmp (xs.take j)∈xs:=Wc (zln cmp ne);have L:=G _ (Yr m) _ bm;refine⟨cmp xs[j] (zbS cmp (xs.take j)) == .lt,⟨by lia,by lia,?_⟩,λh tk J M old C=>?_⟩
  ·rw[<- Z2 m,zj0 cmp ne]
   unfold zb1;by_cases z:cmp xs[j] (zbS cmp (xs.take j))=.lt
   ·rw[Jf z,Jf (by rw[z];rfl)];exact f
   ·rw[Ja z,Ja (λy=>z (by simpa using y))];exact t
  ·have K:Inv X pins σ H { s with heap:=h,toks:=tk }:=I.kept λc o e=>old c o (λz=>JA (Jc e) (Jd.mp z)) (λz=>by
    have h1:=Jc e;have w:c=(s.heap.push { cls:=.type (cN b),data:=.fields #[.ref a,.int 0 0] }).objs.size:=z;rw[Z4]at w
    exact absurd w (JA (ZE h1))) (J8 _ e)
   exact zmN K L X.A.in1 v A (by show X.A.units+1+n<cLine;lia) f t X.prog X.w M J C
 ·refine⟨zbS cmp xs,H,I.kept (t':=tk) λc o e=>E c o (λz=>JA (Jc e) (Jd.mp z)) (J8 _ e),?_,q⟩
  have:xs.take its.toArray.size=xs:=Yf (by rw[Jj];lia);rw[this]at f;exact f
theorem zjV (j:X.calm=true) (b:Bool) (h:X.A.units+64<cLine):CallR X (.builtin "min") (λvs H Q=>∃ a xs n cmp,vs=[.ref a]/\SqB b X.K H a xs/\0<xs.length/\n<=20/\(∀ x∈xs,∀ y∈xs,Lx H n x y (cmp x y))/\Q (zbS cmp xs) H):=by
 rintro pins s σ H vs us Q I e ⟨a,xs,n,cmp,rfl,i,d,c,k,q⟩;obtain⟨u,rfl,f⟩:=e.one;cases f;obtain⟨its,g,pp⟩:=I.sq (b:=b) i;obtain⟨o,m,l,_⟩:=pp.ob;exact zi1 (zgr j h I g pp (Jc l) d c k q)
theorem zhM (i:X.calm=true) (h:X.A.units+64<cLine):CallR X (.builtin "min") (λvs H Q=>∃ x y n cmp,vs=[x,y]/\n<=20/\(∀ u∈[x,y],∀ v∈[x,y],Lx H n u v (cmp u v))/\Q (zb1 cmp x y) H):=by
 rintro pins s σ H vs us Q I d ⟨x,y,n,cmp,rfl,c,j,q⟩;obtain⟨u,a,rfl,g,f⟩:=zlO d;refine zkS ?_;have k:=I.kept (t':=s.toks) (h':=s.heap.push { cls:=.type "tuple",data:=.seq #[u,a] }) λb u e=>J8 _ e;refine zgr (s:={ s with heap:=s.heap.push { cls:=.type "tuple",data:=.seq #[u,a] } }) (b:=false) (xs:=[x,y]) (its:=[u,a]) i h k (.cons g (.cons f .nil)) ⟨_,Jt _ rfl,rfl,_,rfl⟩ ?_ (by show 0<2;lia) c j q;show s.heap.objs.size<(s.heap.push _).objs.size;rw[Z4];lia
end
def cmpR:List Int->List Int->Ordering
 | [],[]=>.eq
 | [],_::_=>.lt
 | _::_,[]=>.gt
 | a::x,b::y=>(compare a b).then (cmpR x y)
theorem zdt:∀ {x y:List Int},x.length=y.length->(List.zipWith compare x y).foldr Ordering.then .eq=cmpR x y
 | [],[],_=>rfl
 | a::x,b::y,h=>by
  show (compare a b).then _=(compare a b).then _;rw[zdt (x:=x) (y:=y) (by simpa using h)]
theorem zfZ {H:Hp}{a b:Addr}{x y:List Int}(ha:H a=some (.tup (x.map V.int))) (hb:H b=some (.tup (y.map V.int))) (l:x.length=y.length):Lx H 1 (.ref a) (.ref b) (cmpR x y):=by
 rw[<- zdt l];refine .row ha hb (by rw[Jm,List.length_zipWith];lia) (by rw[Jm,List.length_zipWith];lia) λi u v c e d f=>?_;rw[JL]at e d;obtain⟨p,h,rfl⟩:=Y8.mp e;obtain⟨q,g,rfl⟩:=Y8.mp d;rw[List.getElem?_zipWith,h,g]at f;cases f;exact .int 0 p q
def minR (x y:List Int):List Int:=if cmpR y x=.lt then y else x
def minL:List (List Int)->List Int
 | []=>[]
 | x::r=>r.foldl minR x
def zno (P:Program) (w:World) (t:TS):TS:=λD σ H=>t { D with nx:=λa H'=>∃ d o xs b,H d=some (DN P w d b)/\H' d=some (.frz o (DN P w d xs))/\D.nx a (upd H' d (DN P w d xs)) } σ H
section
variable {X:Cx}
theorem zko {st:Stmt}{t:TS}(h:PS X st t):PS X st (zno X.prog X.w t):=by
 intro pins s σ H D I b;refine thn (h pins s σ H _ I b) λf s1 q=>?_
 cases f with
 | next =>
  obtain⟨a,H',c,d,o,xs,e,hd,hz,q⟩:=q
  exact⟨a,_,c.thawN hz (I.meltedN hd),q⟩
 | brk=>exact q
 | cont=>exact q
 | ret u=>exact q
end
theorem zhL {P:Program}{w:World}{d:Addr}{o:Obj}{xs:KVN}{g:TG}{tb:TS}{D:Ends}{σ:St}{H:Hp}(a:Nat->St->Hp->Prop) (r:a 0 σ H) (l:∀ i σ H,i<=xs.length->a i σ H->H d=some (.frz o (DN P w d xs)))
  (k:∀ i p σ H T,xs[i]?=some p->H T=none->a i σ H->g (.ref T) σ (upd H T (.tup [.ref p.2.1,p.2.2])) λb f=>tb { D with nx:=a (i+1),ct:=a (i+1),bk:=D.nx } b f) (hd:∀ σ H,a xs.length σ H->D.nx σ H) :
  ∃ W:Nat->Nat->St->Hp->Prop,(∃ m,W 0 m σ H)/\∀ i m σ H,W i m σ H ->
   ((Itni P w d o xs).stop i H/\D.nx σ H)\/((Itni P w d o xs).go i H/\∃ N:St->Hp->Prop,(∀ c H',N c H'->∃ h,h<m/\W (i+1) h c H')/\∀ x H',(Itni P w d o xs).yld i H x H'->g x σ H' λb f=>tb { D with nx:=N,ct:=N,bk:=D.nx } b f):=by
 refine⟨λi m σ H=>m=xs.length-i/\i<=xs.length/\a i σ H,⟨xs.length,by simp,JS _,r⟩,λi m σ H ⟨em,hi,p⟩=>?_⟩;subst em;have q:=l i σ H hi p;by_cases lt:i<xs.length
 ·refine .inr ⟨⟨q,lt⟩,a (i+1),λc H' j=>⟨xs.length-(i+1),by lia,rfl,lt,j⟩,λx H' ⟨y,T,s,n,t,e2⟩=>?_⟩
  subst t e2;exact k i y σ H T s n p
 ·have e:i=xs.length:=by lia
  subst e;exact .inl ⟨⟨q,rfl⟩,hd σ H p⟩
end L2
namespace Bn
open PySem L2 Own
theorem zcq:∀ (fs:List (Nat × Nat)) (st:List Int × List Int),(∀ t∈st.2,t=0\/t=1)->∀ t∈(zaM st fs).2,t=0\/t=1
 | [],_,h=>h
 | f::fs,st,h=>zcq fs (zaN st f) λt a=>by
  unfold zaN at a;simp only at a;rcases Jx.mp a with z|z
  ·exact h t z
  ·rw[Jd.mp z];lia
theorem zjz (fs:List (Nat × Nat)) (cs:List Int):∀ t∈(flow fs cs).2,t=0\/t=1:=zcq fs (cs,[]) λt a=>by simp at a
theorem zb7 (n p:Nat):(List.replicate n (0:Int)).getD p 0=0:=by
 rw[Jb,List.getElem?_replicate];split<;>rfl
theorem zgq (n p:Nat):(List.replicate n (0:Int)).set p 0=List.replicate n 0:=by
 refine W5 (by simp) λi h1 a=>?_;rw[List.getElem_set];split<;>simp
theorem zcp (n:Nat):∀ (fs:List (Nat × Nat)) (T:List Int),zaM (List.replicate n 0,T) fs=(List.replicate n 0,T++List.replicate fs.length 0)
 | [],T=>by simp[zaM]
 | f::fs,T=>by
  have e:zaN (List.replicate n 0,T) f=(List.replicate n 0,T++[0]):=by
   unfold zaN;simp only[zb7];rw[show ((0:Int)+0+1) / 2=0 by decide,show ((0:Int)+0) / 2=0 by decide,show ((0:Int)+0)%2=0 by decide,zgq,zgq]
  show zaM (zaN (List.replicate n 0,T) f) fs=_;rw[e,zcp n fs (T++[0]),JW,Y5,JY];rfl
theorem zff (n:Nat) (fs:List (Nat × Nat)):flow fs (List.replicate n 0)=(List.replicate n 0,List.replicate fs.length 0):=by
 unfold flow;rw[zcp,Zy]
theorem zjE (N:Nt) (ok:N.Ok):za3 N (List.replicate N.lanes 0)=List.replicate N.lanes 0:=by
 unfold za3;rw[zff];refine W5 (by rw[Jm,Yh,zg0 ok]) λi h1 a=>?_;rw[List.getElem_map,List.getElem_replicate];exact zb7 _ _
theorem zg5 (N:Nt):zbf N (List.replicate N.lanes 0)=List.replicate N.forks.length 0:=by unfold zbf;rw[zff]
theorem ball {N:Nt}(ok:N.Ok) (back:Bool) {cs:List Int}(cl:cs.length=N.lanes) {lane:Nat}(i:lane<N.lanes) :
  zbf N (zaD cs lane (if back then -1 else 1))=(zaH back N.forks (zbf N cs) lane N.forks.length).1 /\
  za3 N (zaD cs lane (if back then -1 else 1))=zaD (za3 N cs) (N.ends.idxOf (zaH back N.forks (zbf N cs) lane N.forks.length).2) (if back then -1 else 1) /\
  (zaH back N.forks (zbf N cs) lane N.forks.length).2<N.lanes:=by
 have R:=ran (back:=back) (fs:=N.forks) (cs:=cs) (lane:=lane) (λf d=>by rw[cl];exact ok.fk f d) (by lia) (zjz _ _) N.forks.length (Jg _);have tk:N.forks.take N.forks.length=N.forks:=Yq;have f1:=R.flows;have t1:=R.turns;rw[tk]at f1 t1;have c:=R.here;rw[cl]at c;refine⟨?_,?_,c⟩
 ·refine zbZ ?_ λp b=>?_
  ·unfold zbf;rw[za7,R.len,za7]
  ·unfold zbf at b;rw[za7]at b;exact t1 p b
 ·have ne:(zaH back N.forks (zbf N cs) lane N.forks.length).2∈N.ends:=ok.en.mem_iff.mpr (YN.mpr c)
  have nd:N.ends.Nodup:=ok.en.nodup_iff.mpr List.nodup_range;have h:(za3 N cs).length=N.ends.length:=by unfold za3;rw[Jm]
  refine zbZ (by rw[zaY];unfold za3;rw[Jm,Jm]) λp b=>?_;have a:p<N.ends.length:=by unfold za3 at b;rwa [Jm]at b
  rw[zaQ (by rw[h];exact a)]
  have g:∀ xs:List Int,(N.ends.map λe=>xs.getD e 0).getD p 0=xs.getD N.ends[p] 0:=λxs=>by
   rw[Jb (l:=List.map _ _),JL,J6 a];rfl
  unfold za3;rw[g,g,f1];have lt':N.ends[p]<(flow N.forks cs).1.length:=by rw[zbG,cl];exact zjF ok (Yr a)
  rw[zaQ lt']
  congr 1
  show (if (zaH back N.forks (zbf N cs) lane N.forks.length).2=N.ends[p] then _ else _)=_
  have iff:(zaH back N.forks (zbf N cs) lane N.forks.length).2=N.ends[p]↔N.ends.idxOf (zaH back N.forks (zbf N cs) lane N.forks.length).2=p:=by
   constructor
   ·intro e;rw[e];exact nd.idxOf_getElem p a
   ·intro e
    have:=List.getElem_idxOf (List.idxOf_lt_length_of_mem ne);subst e;exact this.symm
  by_cases e:(zaH back N.forks (zbf N cs) lane N.forks.length).2=N.ends[p]
  ·rw[Jf e,Jf (iff.mp e)]
  ·rw[Ja e,Ja λz=>e (iff.mpr z)]
end Bn
namespace Bn
open PySem L2 Own
def nm (ns:List Nat) (i:Nat):Nat:=ns.getD i 0
section
variable {ns:List Nat}{n:Nat}(pm:ns.Perm (List.range n))
include pm
end
def Nt.again (N:Nt) (f:Nat × Nat):Nt:=⟨N.lanes,N.forks++[f],N.ends⟩
def big (x y:Int):Int:=if y > x then y else x
def zb5 (st:List Int × List Int) (f:Nat × Nat):List Int × List Int :=
 ((st.1.set f.1 (1+big (st.1.getD f.1 0) (st.1.getD f.2 0))).set f.2 (1+big (st.1.getD f.1 0) (st.1.getD f.2 0)),st.2++[1+big (st.1.getD f.1 0) (st.1.getD f.2 0)])
def lay (n:Nat) (fs:List (Nat × Nat)):List Int × List Int:=fs.foldl zb5 (List.replicate n 0,[])
theorem zgR {n:Nat}{fs:List (Nat × Nat)}{i:Nat}{f:Nat × Nat}(h:fs[i]?=some f):lay n (fs.take (i+1))=zb5 (lay n (fs.take i)) f:=by
 have w:=J9.mp h;rw[Y7 w.1,w.2];unfold lay;rw[Z6];rfl
theorem zes {n:Nat}:∀ (i:Nat) (fs:List (Nat × Nat)),i<=fs.length->(lay n (fs.take i)).1.length=n/\(lay n (fs.take i)).2.length=i
 | 0,fs,_=>by simp[lay]
 | i+1,fs,h=>by
  have ih:=zes (n:=n) i fs (by lia);rw[zgR (J6 (by lia))];unfold zb5;simp[ih.1,ih.2]
def zot (g f:Nat × Nat):Bool:=decide (g.1=f.1\/g.1=f.2) || decide (g.2=f.1\/g.2=f.2)
def ahead (fs:List (Nat × Nat)) (a:List Int) (f:Nat × Nat) (i:Nat):List Int:=((List.range i).filter λj=>zot (fs.getD j (0,0)) f).map λj=>a.getD j 0
def ze7 (N:Nt):List Int:=(lay N.lanes N.forks).2
theorem zhC (N:Nt):(ze7 N).length=N.forks.length:=by
 have:=(zes (n:=N.lanes) N.forks.length N.forks (Jg _)).2
 rwa [Yq]at this
abbrev Fk:=Nat × Nat
def run {σ α:Type}(step:σ->Fk->σ × α):σ->List Fk->σ × List (α × Fk)
 | s,[]=>(s,[])
 | s,f::fs=>((run step (step s f).1 fs).1,((step s f).2,f)::(run step (step s f).1 fs).2)
theorem zeO {σ α:Type}(step:σ->Fk->σ × α):∀ (s:σ) (fs:List Fk),(run step s fs).2.map Prod.snd=fs
 | _,[]=>rfl
 | s,f::fs=>by
  show f::((run step (step s f).1 fs).2.map Prod.snd)=f::fs;rw[zeO step]
def layS (re:List Int) (f:Fk):List Int × Int:=((re.set f.1 (1+big (re.getD f.1 0) (re.getD f.2 0))).set f.2 (1+big (re.getD f.1 0) (re.getD f.2 0)),1+big (re.getD f.1 0) (re.getD f.2 0))
theorem zje:∀ (fs:List Fk) (re a:List Int),fs.foldl zb5 (re,a)=((run layS re fs).1,a++(run layS re fs).2.map Prod.fst)
 | [],re,a=>by
  show (re,a)=(re,a++[])
  rw[Yd]
 | f::fs,re,a=>by
  rw[ZQ];show fs.foldl zb5 ((layS re f).1,a++[(layS re f).2])=_;rw[zje fs];show (_,a++[(layS re f).2]++_)=(_,a++((layS re f).2::_));rw[JY];rfl
def pz (N:Nt):List (Int × Fk):=(run layS (List.replicate N.lanes 0) N.forks).2
theorem ziw (N:Nt):(pz N).map Prod.fst=ze7 N:=by
 unfold ze7 lay pz;rw[zje];rfl
theorem zei (N:Nt):(pz N).map Prod.snd=N.forks:=zeO _ _ _
def rnk (x:Int × Fk):Int:=x.1*1024+x.2.1*32+x.2.2
def ins (x:Int × Fk):List (Int × Fk)->List (Int × Fk)
 | []=>[x]
 | y::l=>if rnk x<=rnk y then x::y::l else y::ins x l
def zhH:List (Int × Fk)->List (Int × Fk)
 | []=>[]
 | x::l=>ins x (zhH l)
theorem insP (x:Int × Fk):∀ l,(ins x l).Perm (x::l)
 | []=>.refl _
 | y::l=>by
  unfold ins;split
  ·exact .refl _
  ·exact((insP x l).cons y).trans (List.Perm.swap x y l)
theorem zbW:∀ l,(zhH l).Perm l
 | []=>.refl _
 | x::l=>(insP x _).trans ((zbW l).cons x)
theorem zdS (x:Int × Fk):∀ l:List (Int × Fk),l.Pairwise (λa b=>rnk a<=rnk b)->(ins x l).Pairwise (λa b=>rnk a<=rnk b)
 | [],_=>List.pairwise_singleton _ _
 | y::l,h=>by
  obtain⟨h1,d⟩:=Wy.mp (id h);unfold ins;split
  ·next le =>
   refine Wy.mpr ⟨λz hz=>?_,h⟩;rcases Jh.mp hz with rfl|c
   ·exact le
   ·exact Zx le (h1 z c)
  ·next gt =>
   refine Wy.mpr ⟨λz hz=>?_,zdS x l d⟩;rcases Jh.mp ((insP x l).mem_iff.mp hz) with rfl|hz
   ·lia
   ·exact h1 z hz
theorem zcN:∀ l,(zhH l).Pairwise (λa b=>rnk a<=rnk b)
 | []=>List.Pairwise.nil
 | x::l=>zdS x _ (zcN l)
theorem zeb {a b:List (Int × Fk)}(p:a.Perm b) (bd:∀ y∈b,y.2.1<32/\y.2.2<32) (sa:a.Pairwise (λx y=>rnk x<=rnk y)) (sb:b.Pairwise (λx y=>rnk x<=rnk y)):a=b:=by
 refine List.Perm.eq_of_pairwise (le:=λx y=>rnk x<=rnk y) (λx y l k h1 d=>?_) sa sb p;have o:=bd x (p.mem_iff.mp l);have c:=bd y k;obtain⟨j,i,h⟩:=x;obtain⟨g,f,e⟩:=y;unfold rnk at h1 d;simp only at h1 d o c;have n:j=g:=by lia
 have e2:i=f:=by lia
 have m:h=e:=by lia
 rw[n,e2,m]
def zeT (N:Nt):List Fk:=(zhH (pz N)).map Prod.snd
def zcg (N:Nt):Nt:=⟨N.lanes,zeT N,N.ends⟩
theorem znt {N:Nt}{y:Int × Fk}(h:y∈pz N):y.2∈N.forks:=by
 rw[<- zei N];exact JH.mpr ⟨y,h,rfl⟩
theorem zlt {N:Nt}(ok:N.Ok):∀ y∈pz N,y.2.1<32/\y.2.2<32:=λy a=>by
 have:=ok.fk y.2 (znt a);have:=ok.l16;lia
theorem zcB (N:Nt):(zeT N).Perm N.forks:=by
 have:=(zbW (pz N)).map Prod.snd
 rwa [zei]at this
theorem zkr {N:Nt}(ok:N.Ok):(zcg N).Ok:=⟨ok.l1,ok.l16,by
 show (zeT N).length<=128
 rw[(zcB N).length_eq];exact ok.fm,λf a=>ok.fk f ((zcB N).mem_iff.mp a),ok.en⟩
theorem zda {N:Nt}(ok:N.Ok) {zs:List (Int × Fk)}(p:zs.Perm (pz N)) (so:zs.Pairwise (λa b=>rnk a<=rnk b)):zs=zhH (pz N) :=
 zeb (p.trans (zbW _).symm) (λy c=>zlt ok y ((zbW _).mem_iff.mp c)) so (zcN _)
theorem zbk {H:Hp}{a:Addr}(_:H a=none) (o:HO):L2.upd H a o a=some o:=zab
def decF (H:Hp):V->Fk
 | .ref g=>match H g with
  | some (.tup [.int a,.int b])=>(a.toNat,b.toNat)
  | _=>(0,0)
 | _=>(0,0)
def dec (H:Hp):V->Int × Fk
 | .ref t=>match H t with
  | some (.tup [.int l,x])=>(l,decF H x)
  | _=>(0,(0,0))
 | _=>(0,(0,0))
theorem zjK {H:Hp}{g:Addr}{f:Fk}(h:H g=some (.tup [.int f.1,.int f.2])):decF H (.ref g)=f:=by
 simp only[decF,h];obtain⟨a,b⟩:=f;simp
theorem zn3 {H:Hp}{t g:Addr}{l:Int}{f:Fk}(h:H t=some (.tup [.int l,.ref g])) (a:H g=some (.tup [.int f.1,.int f.2])):dec H (.ref t)=(l,f):=by
 show (match H t with|some (.tup [.int l,x])=>(l,decF H x)|_=>(0,(0,0)))=(l,f);rw[h];show (l,decF H (.ref g))=(l,f);rw[zjK a]
def Trp (H:Hp) (x:V) (p:Int × Fk):Prop:=∃ t g,x=.ref t/\H t=some (.tup [.int p.1,.ref g])/\H g=some (.tup [.int p.2.1,.int p.2.2])
theorem Trp.dec {H:Hp}{x:V}{p:Int × Fk}(h:Trp H x p):dec H x=p:=by
 obtain⟨t,g,rfl,h1,a⟩:=h;exact zn3 h1 a
theorem zbJ {i j:Int}:(compare i j=.lt↔i<j)/\(compare i j=.eq↔i=j)/\(compare i j=.gt↔j<i):=by
 rw[show compare i j=compareOfLessAndEq i j from rfl];unfold compareOfLessAndEq;by_cases h1:i<j
 ·rw[Jf h1];simp[h1];lia
 ·rw[Ja h1]
  by_cases a:i=j
  ·rw[Jf a];simp[a]
  ·rw[Ja a];simp[h1,a];lia
theorem zlG {i j:Int}{c:Ordering}(h:(c=.lt->i<j)/\(c=.eq->i=j)/\(c=.gt->j<i)):compare i j=c:=by
 cases c with
 | lt=>exact zbJ.1.mpr (h.1 rfl)
 | eq=>exact zbJ.2.1.mpr (h.2.1 rfl)
 | gt=>exact zbJ.2.2.mpr (h.2.2 rfl)
theorem cmp2 {a b d c:Int}(h1:0<=b/\b<32) (i:0<=c/\c<32):compare (a*32+b) (d*32+c)=(compare a d).then (compare b c):=by
 apply zlG;have h:=@zbJ a d;have g:=@zbJ b c;cases e:compare a d<;>rw[e]at h<;>simp at h
 ·refine⟨λ_=>by lia,λz=>?_,λz=>?_⟩<;>cases z
 ·cases f:compare b c<;>rw[f]at g<;>simp at g
  ·refine⟨λ_=>by lia,λz=>?_,λz=>?_⟩<;>cases z
  ·refine⟨λz=>?_,λ_=>by lia,λz=>?_⟩<;>cases z
  ·refine⟨λz=>?_,λz=>?_,λ_=>by lia⟩<;>cases z
 ·refine⟨λz=>?_,λz=>?_,λ_=>by lia⟩<;>cases z
theorem zmO {H:Hp}{n:Nat}{g g':Addr}{f a:Fk}(h:H g=some (.tup [.int f.1,.int f.2])) (h':H g'=some (.tup [.int a.1,.int a.2])) (b:f.2<32) (c:a.2<32) :
  Lx H (n+1) (.ref g) (.ref g') (compare ((f.1:Int)*32+f.2) ((a.1:Int)*32+a.2)):=by
 rw[cmp2 (by lia) (by lia)];exact Lx.pair h h' (.int _ _ _) (.int _ _ _)
theorem znM {H:Hp}{x y:V}{p q:Int × Fk}(h:Trp H x p) (d:Trp H y q) (b:p.2.1<32/\p.2.2<32) (l:q.2.1<32/\q.2.2<32):Lx H 2 x y (compare (rnk p) (rnk q)):=by
 obtain⟨t,g,rfl,h1,k⟩:=h;obtain⟨t',g',rfl,j,i⟩:=d
 have e:compare (rnk p) (rnk q)=(compare p.1 q.1).then (compare ((p.2.1:Int)*32+p.2.2) ((q.2.1:Int)*32+q.2.2)):=by
  apply zlG;have c:=@zbJ p.1 q.1;have a:=@zbJ ((p.2.1:Int)*32+p.2.2) ((q.2.1:Int)*32+q.2.2);unfold rnk;cases e:compare p.1 q.1<;>rw[e]at c<;>simp at c
  ·refine⟨λ_=>by lia,λz=>?_,λz=>?_⟩<;>cases z
  ·cases f:compare ((p.2.1:Int)*32+p.2.2) ((q.2.1:Int)*32+q.2.2)<;>rw[f]at a<;>simp at a
   ·refine⟨λ_=>by lia,λz=>?_,λz=>?_⟩<;>cases z
   ·refine⟨λz=>?_,λ_=>by lia,λz=>?_⟩<;>cases z
   ·refine⟨λz=>?_,λz=>?_,λ_=>by lia⟩<;>cases z
  ·refine⟨λz=>?_,λz=>?_,λ_=>by lia⟩<;>cases z
 rw[e];exact Lx.pair h1 j (.int _ _ _) (zmO k i b.2 l.2)
theorem zlJ {H:Hp}{ts ps:List V}{ls:List Int}{fs:List Fk}(z:Zip2 H ts (ls.map V.int) ps) (pr:Prs H ps fs):ts.map (dec H)=ls.zip fs/\∀ x∈ts,Trp H x (dec H x):=by
 have n:=pr.len;have tl:=z.1;rw[Jm]at tl
 have at_:∀ (i:Nat) t,ts[i]?=some t->∃ l f,ls[i]?=some l/\fs[i]?=some f/\Trp H t (l,f):=λi t k=>by
  obtain⟨a,x,y,rfl,c,j,ha⟩:=z.2 i t k;rw[JL]at c;obtain⟨l,d,rfl⟩:=Y8.mp c;obtain⟨g,f,rfl,h,m⟩:=pr.get j;exact⟨l,f,d,h,a,g,rfl,ha,m⟩
 refine⟨List.ext_getElem? λi=>?_,λx c=>?_⟩
 ·rw[JL]
  cases e:ts[i]? with
  | none =>
   have o:=Zi.mp e
   exact(Zi.mpr (by rw[Wi];lia)).symm
  | some t =>
   obtain⟨l,f,d,h,b⟩:=at_ i t e;rw[Option.map_some,b.dec];exact(Zg.mpr ⟨d,h⟩).symm
 ·obtain⟨i,hi⟩:=YY.mp c
  obtain⟨l,f,_,_,b⟩:=at_ i x hi;rw[b.dec];exact b
def IsFk (H:Hp) (x:V) (f:Fk):Prop:=∃ g,x=.ref g/\H g=some (.tup [.int f.1,.int f.2])
theorem IsFk.dec {H:Hp}{x:V}{f:Fk}(h:IsFk H x f):decF H x=f:=by
 obtain⟨g,rfl,e⟩:=h;exact zjK e
theorem zlv {H:Hp}:∀ {ps:List V},(∀ x∈ps,IsFk H x (decF H x))->Prs H ps (ps.map (decF H))
 | [],_=>trivial
 | x::ps,h=>by
  obtain⟨g,e,b⟩:=h x JC;exact⟨⟨g,e,b⟩,zlv λy a=>h y (JB _ a)⟩
theorem Prs.app {H:Hp}:∀ {ps a:List V}{fs b:List Fk},Prs H ps fs->Prs H a b->Prs H (ps++a) (fs++b)
 | [],_,[],_,_,h=>h
 | _::_,_,_::_,_,⟨x,r⟩,h=>⟨x,Prs.app r h⟩
theorem zns (N:Nt):pz N=(ze7 N).zip N.forks:=by
 rw[<- ziw,<- zei]
 induction pz N with
 | nil=>rfl
 | cons x l ih=>rw[Y6,Y6,List.zip_cons_cons,<- ih]
end Bn
namespace Bn
open PySem L2 Own
abbrev Sn:=List Int × List Grp × List Int
abbrev Sn.none (N:Nt):Sn:=(List.replicate N.forks.length 0,[],List.replicate N.lanes 0)
end Bn
namespace L2
open PySem PySem.Spec PyProof.Rows Own
abbrev FZ (o:Obj):HO:=.frz o (.ext λ_=>True)
theorem zjw {P:Program}{w:World}{H:Hp}{h:Heap}{a:Addr}{o:Obj}(e:h.get? a=some o):ObjOk P w H h a (FZ o):=⟨e,trivial,⟨o,e⟩,λ_ _ _ _=>trivial⟩
structure Lam where
 params:Arguments
 body:Expr
 scope:Scope
 qual:Str
def lamO (L:Lam) (cl:List (Str × Addr)) (pm:Value) (c:Addr) (ct:Value):Obj:=PySem.W.kla_obj "<lambda>" L.qual L.params L.body L.scope cl pm c ct
structure LamAt (H:Hp) (f:Addr) (L:Lam) (cl:List (Str × Addr)) (vs:List V):Prop where
 ex:∃ (pm:Value) (c:Addr) (ct:Value) (oc:Obj) (fs:Array Value) (t:Tok),H f=some (FZ (lamO L cl pm c ct))/\H c=some (FZ oc)/\oc.data=.fields fs/\fs[1]?=some (.str L.qual t)
 len:cl.length=vs.length
 cell:∀ (i:Nat) x c v,cl[i]?=some (x,c)->vs[i]?=some v->∃ o u,H c=some (FZ o)/\o.data=.cell (some u)/\RelV v u
 nd1:(cl.map (·.1)).Nodup
 nd2:(cl.map (·.2)).Nodup
theorem LamAt.frz {H H':Hp}{f:Addr}{L:Lam}{cl:List (Str × Addr)}{vs:List V}(h:LamAt H f L cl vs) (z:∀ b o u,H b=some (.frz o u)->H' b=some (.frz o u)):LamAt H' f L cl vs:=by
 obtain⟨pm,c,ct,oc,fs,t,h1,l,k,j⟩:=h.ex;refine⟨⟨pm,c,ct,oc,fs,t,z _ _ _ h1,z _ _ _ l,k,j⟩,h.len,λi x c v a b=>?_,h.nd1,h.nd2⟩;obtain⟨o,u,g,e,d⟩:=h.cell i x c v a b;exact⟨o,u,z _ _ _ g,e,d⟩
def za1 (cl:List (Str × Addr)) (H:Hp):Hp:=λb=>if b∈cl.map (·.2) then none else H b
def back (cl:List (Str × Addr)) (H H':Hp):Hp:=λb=>if b∈cl.map (·.2) then H b else H' b
theorem zb9 {cl:List (Str × Addr)}{H:Hp}{b:Addr}(h:b∈cl.map (·.2)):za1 cl H b=none:=Jf h
theorem zaA {cl:List (Str × Addr)}{H:Hp}{b:Addr}(h:b∉cl.map (·.2)):za1 cl H b=H b:=Ja h
theorem zgk {cl:List (Str × Addr)}{H H':Hp}{b:Addr}(h:b∈cl.map (·.2)):back cl H H' b=H b:=Jf h
theorem zbs {cl:List (Str × Addr)}{H H':Hp}{b:Addr}(h:b∉cl.map (·.2)):back cl H H' b=H' b:=Ja h
theorem zhc {cl:List (Str × Addr)}{H:Hp}{b:Addr}{o:HO}(h:za1 cl H b=some o):b∉cl.map (·.2)/\H b=some o:=by
 by_cases c:b∈cl.map (·.2)
 ·rw[zb9 c]at h;cases h
 ·rw[zaA c]at h;exact⟨c,h⟩
def CellsFz (cl:List (Str × Addr)) (H:Hp):Prop:=∀ b∈cl.map (·.2),∃ o,H b=some (FZ o)
theorem LamAt.fz {H:Hp}{f:Addr}{L:Lam}{cl:List (Str × Addr)}{vs:List V}(h:LamAt H f L cl vs):CellsFz cl H:=λb hb=>by
 obtain⟨⟨x,c⟩,j,rfl⟩:=JH.mp hb;obtain⟨i,a,e⟩:=Zm.mp j;have g:i<vs.length:=by rw[<- h.len];exact a
 obtain⟨o,u,d,_⟩:=h.cell i x c vs[i] (by rw[J6 a,e]) (J6 g);exact⟨o,d⟩
section
variable {P:Program}{w:World}{H H':Hp}{h h':Heap}{cl:List (Str × Addr)}
theorem zfb (x:HOk P w H h) (fz:CellsFz cl H):HOk P w (za1 cl H) h:=λb u e=>by
 obtain⟨nb,f⟩:=zhc e
 have keep:∀ {c:Addr}{o:HO},H c=some o->(∀ q,o≠FZ q)->za1 cl H c=some o:=λ{c o} z n=>by
  rw[zaA];· exact z
  ·intro d
   obtain⟨q,a⟩:=fz c d;rw[z]at a;exact n q (Js a)
 exact(x b u f).stay (λc v _ q=>q) (λc q=>keep q λz y=>by cases y) λc xs q=>keep q λz y=>by cases y
theorem zlP {fs:List Addr}(un:Un fs [] (za1 cl H) H' h h') (fz:CellsFz cl H) (g:∀ b∈fs,H b=none) (there:∀ b o,H b=some (FZ o)->h.get? b=some o) (low:∀ b∈cl.map (·.2),H' b=none) (ok:HOk P w H' h'):Un fs [] H (back cl H H') h h'/\HOk P w (back cl H H') h':=by
 have a:∀ {b:Addr},H b=none->b∉cl.map (·.2):=λe hb=>by
  obtain⟨o,q⟩:=fz _ hb;rw[e]at q;cases q
 have kept:∀ b∈cl.map (·.2),∀ o,h.get? b=some o->h'.get? b=some o:=λb hb o e=>un.keep b o e (zb9 hb) (λz=>a (g b z) hb) (by simp)
 have d:∀ {b:Addr}{o:HO},H b=some o->(∀ q,o≠FZ q)->b∉cl.map (·.2):=λz n hb=>by
  obtain⟨q,f⟩:=fz _ hb;rw[z]at f;exact n q (Js f)
 refine⟨⟨λb o e n x y=>un.keep b o e (by rw[zaA (a n)];exact n) x y,λb o e n x y=>un.slot b o e (by rw[zaA (a n)];exact n) x y,λb o e n y=>?_,un.there,λb xs e=>?_,λb o u e=>?_,λb ps e=>?_⟩,λb u e=>?_⟩
 ·rw[zbs (a n)]
  exact un.free b o e (by rw[zaA (a n)];exact n) y
 ·have nb:=d e λq z=>by cases z
  rw[zbs nb];exact un.tups b xs (by rw[zaA nb];exact e)
 ·by_cases c:b∈cl.map (·.2)
  ·rw[zgk c];exact e
  ·rw[zbs c];exact un.frzs b o u (by rw[zaA c];exact e)
 ·have nb:=d e λq z=>by cases z
  rw[zbs nb];exact un.tbls b ps (by rw[zaA nb];exact e)
 ·by_cases c:b∈cl.map (·.2)
  ·rw[zgk c]at e
   obtain⟨o,q⟩:=fz b c;rw[q]at e;cases e;exact zjw (kept b c o (there b o q))
  ·rw[zbs c]at e
   have old:∀ {x:Addr}{o:HO},H' x=some o->back cl H H' x=some o:=λ{x o} z=>by
    rw[zbs];· exact z
    ·intro i
     rw[low x i]at z;cases z
   exact(ok b u e).stay (λx v _ q=>q) (λx q=>old q) λx xs q=>old q
end
def envL (L:Lam) (cl:List (Str × Addr)) (a f c:Addr):Env:={ scope:=L.scope,locals:=a,globals:=mainGlobals,cells:=cl,qual:=L.qual++".<locals>.",func:=some f,code:=.ref c,frame:=some a,builtins:=builtinsNs }
def zm6 (CX:CXT) (P:Program) (w:World) (K:PySem.W.Frag) (mg:Str->Option Value) (base:Heap) (N:List Str) (L:Lam) (cl:List (Str × Addr)) (f c:Addr) (A:Around) (outer:List Env) (s:Shared) (H:Hp) (E:XK):Cx where
 prog:=P
 w:=w
 K:=K
 mg:=mg
 base:=base
 A:=A.deeper (envL L cl s.heap.objs.size f c)
 N:=N
 s₀:=s
 H₀:=za1 cl H
 env:=envL L cl s.heap.objs.size f c
 outer:=outer
 stack:=envL L cl s.heap.objs.size f c::outer
 ex:=[]
 calm:=true
 fn:=λ_=>false
 pn:=[]
 xe:=λe s'=>wpAny (model P w) (A.deeper (envL L cl s.heap.objs.size f c)) (leaving (envL L cl s.heap.objs.size f c) e) (λ_ a=>CX outer H s E e a) (λb a=>CX outer H s E b a) s'
structure LamScope (ps fr:List Str) (sc:Scope):Prop where
 kind:sc.kind=.function
 co:sc.isCoroutine=false
 gen:sc.isGenerator=false
 nd:(ps++fr).Nodup
 par:∀ x∈ps,sc.names.lookup x=some .local
 fre:∀ x∈fr,sc.names.lookup x=some .free
 noc:∀ y∈sc.names,y.2≠.cell
 all:∀ x,sc.names.lookup x=some .free->x∈fr
section
variable {CX:CXT}{P:Program}{w:World}{K:PySem.W.Frag}{mg:Str->Option Value}{base:Heap}{L:Lam}{cl:List (Str × Addr)}{vals vs:List V}{ps:List Str}{f c:Addr}{A:Around}{outer:List Env}{s:Shared}{H:Hp}{us:List Value}{E:XK}
theorem zi9 {cl:List (Str × Addr)}(nd:(cl.map (·.1)).Nodup):∀ {i:Nat}{x:Str}{c:Addr},cl[i]?=some (x,c)->cl.lookup x=some c:=by
 induction cl with
 | nil=>intro i x c h;cases h
 | cons p r ih =>
  intro i x c h;rw[Y6,JJ]at nd
  cases i with
  | zero =>
   cases Js h
   rw[YF,beq_self_eq_true]
  | succ i =>
   have m:=JP (show r[i]?=some (x,c) from h);rw[YF,show (x == p.1)=false from ZL.mpr λz=>nd.1 (JH.mpr ⟨_,m,z⟩)];exact ih nd.2 (show r[i]?=some (x,c) from h)
theorem zhg {ps:List Str}{us:List Value}(nd:ps.Nodup) (d:us.length=ps.length) {i:Nat}{x:Str}{u:Value}(b:ps[i]?=some x) (c:us[i]?=some u):(ps.zip us).reverse.lookup x=some u:=by
 have a:((ps.zip us).reverse.map (·.1)).Nodup:=by
  rw[List.map_reverse,List.map_fst_zip (by lia)];exact List.pairwise_reverse.mpr (nd.imp λh=>h.symm)
 have m:(x,u)∈(ps.zip us).reverse:=List.mem_reverse.mpr (JP (i:=i) (by rw[Zg];exact⟨b,c⟩));generalize (ps.zip us).reverse=l at a m
 induction l with
 | nil=>cases m
 | cons p r ih =>
  rw[Y6,JJ]at a;rcases Jh.mp m with e|z
  ·rw[<- e,YF,beq_self_eq_true]
  ·rw[YF,show (x == p.1)=false from ZL.mpr λy=>a.1 (JH.mpr ⟨_,z,y⟩)]
   exact ih a.2 z
theorem zmX {h':Heap}{tk:Nat}(S:LamScope ps (cl.map (·.1)) L.scope) (hd:A.handled=none) (g:Env0 P w K mg base A outer s H) (la:LamAt H f L cl vals) (r:Vals vs us) (I:vs.length=ps.length)
  (ns:h'.Ns s.heap.objs.size (λx=>(ps.zip us).reverse.lookup x)) (kp:∀ b o,s.heap.get? b=some o->h'.get? b=some o) :
  Inv (zm6 CX P w K mg base (ps++cl.map (·.1)) L cl f c A outer s H E) [] ((vs++vals).map some) (za1 cl H) { s with heap:=h',toks:=tk }:=by
 have fz:=la.fz;have N:=List.nodup_append.mp S.nd;have ul:us.length=ps.length:=by rw[<- r.length];exact I
 have d:∀ {x:Str}{a:Addr},cl.lookup x=some a->(x,a)∈cl:=λh=>Zp h
 have cellOf:∀ {x:Str}{a:Addr},(x,a)∈cl->∃ (i:Nat) (v:V) (o:Obj) (u:Value),cl[i]?=some (x,a)/\vals[i]?=some v/\H a=some (FZ o)/\o.data=.cell (some u)/\RelV v u/\s.heap.get? a=some o:=λ{x a} m=>by
  obtain⟨i,n,e⟩:=Zm.mp m;have Q:cl[i]?=some (x,a):=by rw[J6 n,e]
  have O:i<vals.length:=by rw[<- la.len];exact n
  obtain⟨o,u,B,t,D⟩:=la.cell i x a vals[i] Q (J6 O);exact⟨i,_,o,u,Q,J6 O,B,t,D,(g.hok a _ B).1⟩
 refine⟨⟨g.mod,S.kind,rfl,rfl,Jg _,λy z a h1 l=>?_,λy F=>?_,λy a q=>(by cases q),λ_=>hd,Around.frames_deeper g.frames,.inr ⟨rfl,rfl⟩,λb z=>(Je z).elim,λb o e=>⟨(g.bs b o e).1,?_⟩,g.bsz,λb _ _=>Je,λb z=>(Je z).elim,g.funs,λb hb=>?_⟩,
  rfl,g.bare,Un.kept kp,⟨_,ns,λi y v h1 l Z=>?_⟩,λy a h=>?_,?_,λy a h=>zb9 (JH.mpr ⟨_,d h,rfl⟩),λp G=>(Je G).elim,(zfb g.hok fz).kept kp,?_⟩
 ·-- one cell,one name
  have W:=d h1;have U:=d l;obtain⟨i,n,C⟩:=Zm.mp W;obtain⟨j,X,J⟩:=Zm.mp U;have:i=j:=(List.getElem_inj (h₀:=by rw[Jm];exact n) (h₁:=by rw[Jm];exact X) la.nd2).mp (by rw[List.getElem_map,List.getElem_map,C,J]);subst this;rw[C]at J;exact JR Prod.fst J
 ·have F:L.scope.names.lookup y=some .cell\/L.scope.names.lookup y=some .free:=F
  rcases F with q|q
  ·exact absurd rfl (S.noc _ (Zp q))
  ·obtain⟨p,G,e⟩:=JH.mp (S.all y q)
   obtain⟨i,n,C⟩:=Zm.mp G;exact⟨p.2,zi9 la.nd1 (i:=i) (by rw[J6 n,C,<- e])⟩
 ·show za1 cl H b=none
  unfold za1;split
  ·rfl
  ·exact(g.bs b o e).2
 ·show za1 cl H b=none
  unfold za1;split
  ·rfl
  ·exact g.frf b hb
 ·have k:(vs++vals)[i]?=some v:=by
   rw[JL]at l
   cases e:(vs++vals)[i]? with
   | none=>rw[e]at l;cases l
   | some z=>rw[e]at l;cases l;rfl
  replace h1:(ps++cl.map (·.1))[i]?=some y:=h1;by_cases ci:i<vs.length
  ·rw[Yj ci]at k
   rw[Yj (by lia)]at h1;obtain⟨u,Y,R⟩:=r.get k;exact⟨u,R,.inl ⟨S.par y (JP h1),zhg N.1 ul h1 Y⟩⟩
  ·rw[Yg (by lia)]at k
   rw[Yg (by lia),JL,<- I]at h1;obtain⟨⟨x,a⟩,M,rfl⟩:=Y8.mp h1;obtain⟨o,u,B,t,D⟩:=la.cell _ x a v M k;exact⟨u,D,.inr ⟨.inr (S.fre x (JH.mpr ⟨_,JP M,rfl⟩)),a,zi9 la.nd1 M,o,kp _ _ (g.hok a _ B).1,t⟩⟩
 ·obtain⟨i,v,o,u,_,_,_,t,_,T⟩:=cellOf (d h)
  exact⟨some u,o,kp _ _ T,t⟩
 ·show za1 cl H s.heap.objs.size=none
  unfold za1;split
  ·rfl
  ·exact g.hok.fresh (Jg _)
 ·show ((vs++vals).map some).length=(ps++cl.map (·.1)).length
  rw[Jm,Jn,Jn,Jm,I,la.len]
end
theorem zgh {sc:Scope}{env:Env}(h:∀ x,(x,NameKind.free)∈sc.names->∃ c,env.cells.lookup x=some c) :
  ∃ cl,closureFor sc env=pure cl/\cl.map (·.1)=((sc.names.filter λy=>y.2 == .free).map (·.1)).reverse/\∀ p∈cl,env.cells.lookup p.1=some p.2:=by
 unfold closureFor
 have key:∀ (l:List (Str × NameKind)) (acc:List (Str × Addr)),(∀ x,(x,NameKind.free)∈l->∃ c,env.cells.lookup x=some c)->(∀ p∈acc,env.cells.lookup p.1=some p.2) ->
   ∃ cl,(forIn l acc λ(y:Str × NameKind) (r:List (Str × Addr))=>(match y with|(name,kind)=>if (kind == NameKind.free)=true then do let a <- cellOf env name;pure (ForInStep.yield ((name,a)::r)) else pure (ForInStep.yield r):Sem (ForInStep (List (Str × Addr)))))=pure cl/\cl.map (·.1)=((l.filter λy=>y.2 == .free).map (·.1)).reverse++acc.map (·.1)/\∀ p∈cl,env.cells.lookup p.1=some p.2:=by
  intro l
  induction l with
  | nil=>intro acc _ ha;exact⟨acc,rfl,rfl,ha⟩
  | cons y l ih =>
   intro acc g ha;obtain⟨x,e⟩:=y;rw[Yy];by_cases c:(e == NameKind.free)=true
   ·have j:e=.free:=by
     cases e<;>first|rfl|cases c
    subst j;obtain⟨a,i⟩:=g x (.head _)
    obtain⟨cl,d,e2,b⟩:=ih ((x,a)::acc) (λz hz=>g z (.tail _ hz)) (λp f=>by
     rcases Jh.mp f with rfl|q
     ·exact i
     ·exact ha p q)
    refine⟨cl,?_,?_,b⟩
    ·have k:cellOf env x=pure a:=by unfold cellOf;rw[i]
     simp only[k,pure_bind];exact d
    ·rw[e2,List.filter_cons,Jf (show ((x,NameKind.free).2 == NameKind.free)=true from rfl),Y6 (l:=List.filter _ l),List.reverse_cons,JY];rfl
   ·obtain⟨cl,d,e2,b⟩:=ih acc (λz hz=>g z (.tail _ hz)) ha
    refine⟨cl,?_,?_,b⟩
    ·simp only[c,pure_bind]
     exact d
    ·rw[e2,List.filter_cons,Ja c]
 obtain⟨cl,d,e2,b⟩:=key sc.names [] h (λp f=>(Je f).elim);refine⟨cl,?_,by rw[e2,List.map_nil,Yd],b⟩;have n:=JR (λ(m:Sem (List (Str × Addr)))=>m >>= λr=>pure r) d;exact n.trans (pure_bind _ _)
def TabOk (H:Hp) (qual:Str) (l:List (Pos × Addr)):Prop:=∀ p∈l,∃ (oc:Obj) (fs:Array Value) (t:Tok),H p.2=some (FZ oc)/\oc.data=.fields fs/\fs[1]?=some (.str qual t)
theorem TabOk.frz {H H':Hp}{qual:Str}{l:List (Pos × Addr)}(h:TabOk H qual l) (z:∀ b o u,H b=some (.frz o u)->H' b=some (.frz o u)):TabOk H' qual l:=λp a=>by
 obtain⟨oc,fs,t,h1,c⟩:=h p a;exact⟨oc,fs,t,z _ _ _ h1,c⟩
theorem zdY (pos:Pos):∀ l:List (Pos × Addr),codeAmong pos (triples l)=none\/∃ p∈l,codeAmong pos (triples l)=some (.ref p.2)
 | []=>.inl rfl
 | (q,a)::l=>by
  show (if (((q.line:Int) == pos.line && (q.col:Int) == pos.col)=true) then some (Value.ref a) else codeAmong pos (triples l))=none\/∃ p∈(q,a)::l,(if (((q.line:Int) == pos.line && (q.col:Int) == pos.col)=true) then some (Value.ref a) else codeAmong pos (triples l))=some (.ref p.2);split
  ·exact .inr ⟨_,.head _,rfl⟩
  ·rcases zdY pos l with h|⟨p,b,h⟩
   ·exact .inl h
   ·exact .inr ⟨p,.tail _ b,h⟩
theorem zcw:∀ l:List (Pos × Addr),TriplesOk (triples l)
 | []=>trivial
 | (q,a)::l=>zcw l
structure CodeK (K:PySem.W.Frag) (mg:Str->Option Value) (base:Heap) (c P:Addr):Prop where
 hd:PySem.W.codeHdIn K c P=true
 blt:base.BuiltinsAt mg P
 gP:mainGlobals≠P
structure LamRaw (H:Hp) (f:Addr) (L:Lam) (cl:List (Str × Addr)):Prop where
 ex:∃ (pm:Value) (c:Addr) (ct:Value) (oc:Obj) (fs:Array Value) (t:Tok),H f=some (FZ (lamO L cl pm c ct))/\H c=some (FZ oc)/\oc.data=.fields fs/\fs[1]?=some (.str L.qual t)
def CellsOf (env:Env) (cl:List (Str × Addr)):Prop:=∀ p∈cl,env.cells.lookup p.1=some p.2
def tLam (env:Env) (P:Addr) (L:Lam) (fr:List Str):TE:=λ_ H Q=>∃ l,H P=some (.tbl (triples l).toArray)/\TabOk H L.qual l /\
 ∀ f cl a H',cl.map (·.1)=fr->CellsOf env cl->H f=none->LamRaw H' f L cl->H' P=some (.tbl (triples a).toArray)->TabOk H' L.qual a->(∀ b o,H b=some o->b≠P->H' b=some o)->Q (.ref f) H'
section
variable {X:Cx}{pins:List (Addr × Obj)}{σ:St}{H:Hp}{s:Shared}{h':Heap}
theorem Inv.tab {P:Addr}{ps more:Array Value}{tk:Nat}(I:Inv X pins σ H s) (d:H P=some (.tbl ps)) (k:Heap.ExtBut P s.heap h') (new:h'.get? P=some (PySem.W.tabObj (ps++more))):Inv X pins σ (upd H P (.tbl (ps++more))) { s with heap:=h',toks:=tk }:=by
 have ne:∀ {b:Addr},H b=none->b≠P:=λe z=>by rw[z,d]at e;cases e
 have a:∀ {b:Addr}{o:HO},H b=some o->(∀ q,o≠.tbl q)->upd H P (.tbl (ps++more)) b=some o:=λ{b o} e n=>by
  rw[zag];· exact e
  ·intro z
   rw[z,d]at e;exact n ps (Js e).symm
 refine I.step (g':=s.gens) (d':=s.drawn) (ch:=[]) (λb hb=>(Je hb).elim) (λb o _ _ _ e n=>k b o (ne n) e) (λb o _ _ _ e n=>⟨o.slots,k b o (ne n) e⟩) (λb o _ e n=>by rw[zag (ne n)];exact n) (λb o _ e=>?_) (λb xs e=>a e λq z=>by cases z) (λb o u e=>a e λq z=>by cases z) (λb h e=>?_) (λm hm=>?_) (λb u e=>?_) I.bare
 ·by_cases c:b=P
  ·subst c;exact⟨_,new⟩
  ·exact⟨o,k b o c e⟩
 ·by_cases c:b=P
  ·subst c
   rw[d]at e;cases e;exact⟨more,zab⟩
  ·exact⟨#[],by rw[zag c,e];simp⟩
 ·obtain⟨o,es,ep,g,r⟩:=hm
  exact⟨o,es,ep,k _ o (ne I.free) g,r⟩
 ·by_cases c:b=P
  ·subst c
   rw[zab]at e;cases e;exact new
  ·rw[zag c]at e
   refine(I.hok b u e).stay (λx v f q=>k x v ?_ q) (λx q=>a q λz y=>by cases y) λx xs q=>a q λz y=>by cases y
   rcases f with z|z
   ·rw[z];exact c
   ·rintro rfl
    rw[d]at z;cases z
theorem znx {params:Arguments}{body:Expr}{scope:Scope}{pos:Pos}{c P:Addr}{fr:List Str}(J:CodeK X.K X.mg X.base c P) (i:X.env.code=.ref c) (z:defaultsOf params X.env=([],[])) (m:∀ x,(x,NameKind.free)∈scope.names->X.env.kindOf x=some .cell\/X.env.kindOf x=some .free) (M:((scope.names.filter λy=>y.2 == .free).map (·.1)).reverse=fr) :
  PE X (.Lambda params body scope pos) (tLam X.env P ⟨params,body,scope,X.env.qual++"<lambda>"⟩ fr):=by
 intro pins s σ H Q I h;obtain⟨l,r,tok,q⟩:=h;obtain⟨cl,w,j,v⟩:=zgh (sc:=scope) (env:=X.env) λx hx=>I.ok.has x (m x hx);rw[M]at j;have S:s.heap.Ns mainGlobals X.mg:=I.mod.glob.keeps I.bk;have hb:s.heap.BuiltinsAt X.mg P:=J.blt.keeps I.bk;have C:=PySem.W.codeHd_of_K I.kIn J.hd;have B:s.heap.get? P=some (PySem.W.tabObj (triples l).toArray):=I.hok P _ r;refine PySem.W.kla_eval z ?_;rcases zdY pos l with hn|⟨p,E,hy⟩
 ·refine PySem.W.kla_makeFunction w I.ok.glob S i C B (by rw[List.toList_toArray];exact zcw l) (by rw[List.toList_toArray];exact hn) J.gP hb λd f h' tk ex lo hi cr O=>?_
  obtain⟨c2,oc,fs,t,ec,g1,U,T⟩:=cr;cases ec;have R:P<s.heap.objs.size:=Jc B;have sz:s.heap.objs.size<=h'.objs.size:=JX lo (Nat.le_of_lt hi);have W:d≠P:=JT (JF R lo);have V:h'.objs.size≠P:=JT (JF R sz);have G:d≠h'.objs.size:=JA hi
  have F:(triples l).toArray++#[rawInt pos.line,rawInt pos.col,.ref d]=(triples (l++[(pos,d)])).toArray:=by
   rw[triples_append];simp
  rw[F]at O;have A:=I.tab (tk:=tk) (h':=h'.push (lamO ⟨params,body,scope,X.env.qual++"<lambda>"⟩ cl ((X.mg "__name__").getD .none) d f)) (more:=#[rawInt pos.line,rawInt pos.col,.ref d]) r (λb o n e=>J8 _ (ex b o n e)) (by rw[F];exact J8 _ O);rw[F]at A;have n1:H d=none:=I.hok.fresh lo;have n2:H h'.objs.size=none:=I.hok.fresh sz;have Z:upd H P (.tbl (triples (l++[(pos,d)])).toArray) d=none:=by rw[zag W];exact n1
  have I2:=A.adopt (o:=FZ oc) (I.fpOk lo Z) (zjw (J8 _ g1));have Y:upd (upd H P (.tbl (triples (l++[(pos,d)])).toArray)) d (FZ oc) h'.objs.size=none:=by rw[zag G.symm,zag V];exact n2
  have I3:=I2.adopt (o:=FZ (lamO ⟨params,body,scope,X.env.qual++"<lambda>"⟩ cl ((X.mg "__name__").getD .none) d f)) (I.fpOk sz Y) (zjw (Jt _ rfl))
  have keep:∀ b o,H b=some o->b≠P->upd (upd (upd H P (.tbl (triples (l++[(pos,d)])).toArray)) d (FZ oc)) h'.objs.size (FZ (lamO ⟨params,body,scope,X.env.qual++"<lambda>"⟩ cl ((X.mg "__name__").getD .none) d f)) b=some o:=λb o e n=>by
   rw[zag (zae e n2),zag (zae e n1),zag n];exact e
  refine⟨.ref h'.objs.size,_,I3,rfl,q _ cl (l++[(pos,d)]) _ j v n2 ⟨_,d,f,oc,fs,t,zab,by rw[zag G];exact zab,U,T⟩ (by rw[zag V.symm,zag W.symm];exact zab) (λp E=>?_) keep⟩;rcases Jx.mp E with K|is
  ·obtain⟨L,N,t',o1,o2,D⟩:=tok p K
   exact⟨L,N,t',keep _ _ o1 (zcR o1 r (λy=>by cases y)),o2,D⟩
  ·rw[Jd.mp is]
   exact⟨oc,fs,t,by rw[zag G];exact zab,U,T⟩
 ·obtain⟨oc,fs,t,o1,o2,D⟩:=tok p E
  refine PySem.W.kla_makeFunctionHit w I.ok.glob S i C B (by rw[List.toList_toArray];exact zcw l) (by rw[List.toList_toArray];exact hy) hb λf h' tk k sz=>?_;have kk:∀ b o,s.heap.get? b=some o->(h'.push (lamO ⟨params,body,scope,X.env.qual++"<lambda>"⟩ cl ((X.mg "__name__").getD .none) p.2 f)).get? b=some o:=λb o e=>J8 _ (k b o e);have g:=I.hok.fresh (a:=h'.objs.size) sz;have A:=I.laid (a:=h'.objs.size) (o:=FZ (lamO ⟨params,body,scope,X.env.qual++"<lambda>"⟩ cl ((X.mg "__name__").getD .none) p.2 f)) (t':=tk) kk sz (zjw (Jt _ rfl));refine⟨.ref h'.objs.size,_,A,rfl,q _ cl l _ j v g ⟨_,p.2,f,oc,fs,t,zab,by rw[zag (zae o1 g)];exact o1,o2,D⟩ (by rw[zag (zae r g)];exact r) (tok.frz λb o u e=>by rw[zag (zae e g)];exact e) λb o e _=>by rw[zag (zae e g)];exact e⟩
end
def CellsAt (H:Hp) (cs:List (Str × Addr)) (vals:List V):Prop:=cs.length=vals.length/\∀ (i:Nat) x c v,cs[i]?=some (x,c)->vals[i]?=some v->∃ o u,H c=some (FZ o)/\o.data=.cell (some u)/\RelV v u
theorem CellsAt.fz {H:Hp}{cs:List (Str × Addr)}{vals:List V}(h:CellsAt H cs vals):CellsFz cs H:=λb hb=>by
 obtain⟨⟨x,c⟩,g,rfl⟩:=JH.mp hb;obtain⟨i,a,e⟩:=Zm.mp g;have f:i<vals.length:=by rw[<- h.1];exact a
 obtain⟨o,u,d,_⟩:=h.2 i x c vals[i] (by rw[J6 a,e]) (J6 f);exact⟨o,d⟩
theorem LamRaw.at_ {H:Hp}{f:Addr}{L:Lam}{cl cs:List (Str × Addr)}{vals ws:List V}(r:LamRaw H f L cl) (h:CellsAt H cs vals) (n1:(cl.map (·.1)).Nodup) (n2:(cl.map (·.2)).Nodup) (len:cl.length=ws.length)
  (sub:∀ (i:Nat) x c v,cl[i]?=some (x,c)->ws[i]?=some v->∃ j:Nat,cs[j]?=some (x,c)/\vals[j]?=some v):LamAt H f L cl ws:=by
 refine⟨r.ex,len,λi x c v a b=>?_,n1,n2⟩;obtain⟨j,d,e2⟩:=sub i x c v a b;exact h.2 j x c v d e2
def znm (env:Env) (xs:List (Str × Nat)) (sp:Sp) (E:XK) (t:TA):TE:=λσ H Q=>t σ H λvs H1=>∃ vals:List V,vals.length=xs.length/\(∀ (j:Nat) x i v,xs[j]?=some (x,i)->vals[j]?=some v->σ[i]?=some (some v)) /\
 ∀ cs a,cs.map (·.1)=xs.map (·.1)->CellsOf env cs->(cs.map (·.2)).Nodup->CellsAt a cs vals->(∀ b,b∉cs.map (·.2)->a b=H1 b)->(∀ b∈cs.map (·.2),H1 b=none)->sp vs a (λv c=>Q v (za1 cs c)) E
section
variable {X:Cx}{pins:List (Addr × Obj)}{σ:St}{H:Hp}{s:Shared}
theorem Inv.cells {xs:List (Str × Nat)}{vals:List V}(I:Inv X pins σ H s) (nd:(xs.map (·.1)).Nodup) (t:∀ p∈xs,X.N[p.2]?=some p.1/\X.env.scope.names.lookup p.1=some .cell/\X.fn p.1=true) (l:vals.length=xs.length)
  (g:∀ (j:Nat) x i v,xs[j]?=some (x,i)->vals[j]?=some v->σ[i]?=some (some v)):∃ cs:List (Str × Addr),cs.map (·.1)=xs.map (·.1)/\CellsOf X.env cs/\(cs.map (·.2)).Nodup/\cs.length=vals.length /\
   ∀ (j:Nat) x c v,cs[j]?=some (x,c)->vals[j]?=some v->∃ o u,s.heap.get? c=some o/\o.data=.cell (some u)/\RelV v u/\X.s₀.heap.objs.size<=c:=by
 induction xs generalizing vals with
 | nil =>
  cases vals with
  | nil=>exact⟨[],rfl,λp G=>(Je G).elim,Zs,rfl,λj x c v h=>by cases h⟩
  | cons a b=>cases l
 | cons p xs ih =>
  cases vals with
  | nil=>cases l
  | cons v0 vals =>
   rw[Y6,JJ]at nd;obtain⟨cs,y,w,M,L,K⟩:=ih (vals:=vals) nd.2 (λq d=>t q (.tail _ d)) (by simpa using l) (λj x i v a b=>g (j+1) x i v a b);obtain⟨x0,k⟩:=p;obtain⟨E,r,D⟩:=t (x0,k) (.head _);have F:=g 0 x0 k v0 rfl rfl;obtain⟨m,hn,lo⟩:=I.loc;obtain⟨u,A,B⟩:=lo k x0 v0 E F (.inr (.inl r));rcases B with ⟨C,_⟩|⟨_,c,n,o,J,hd⟩
   ·have f:X.env.scope.names.lookup x0=some .local:=C
    rw[r]at f;cases f
   refine⟨(x0,c)::cs,by rw[Y6,Y6,y],λq d=>?_,?_,by rw[JW,JW,L],λj x N v a b=>?_⟩
   ·rcases Jh.mp d with rfl|z
    ·exact n
    ·exact w q z
   ·rw[Y6,JJ]
    refine⟨λhm=>?_,M⟩;obtain⟨q,d,e⟩:=JH.mp hm;have:=I.ok.inj q.1 x0 c (by rw[w q d];exact JR some e) n;exact nd.1 (by rw[<- y,<- this];exact JH.mpr ⟨q,d,rfl⟩)
   ·cases j with
    | zero =>
     cases Js a;cases Js b
     exact⟨o,u,J,hd,A,I.ok.cab x0 c D n⟩
    | succ j=>exact K j x N v a b
variable {k:Nat}{f:Addr}{fd:FuncData}{ps:List Str}{sp:Sp}{x:Str}{p pos:Pos}{e:Expr}{es:List Expr}{t:TA}{E:XK}
theorem zkx (F:FnOk X.prog X.w X.K X.mg X.base CX0 k f fd ps sp) (hr:Room k X.A) (hg:Gl X x) (hm:X.mg x=some (.ref f)) (O:PySem.W.keepIn X.K (.ref f)=true) (hb:Binds X.K fd ps []) (xs:List (Str × Nat)) (nd:(xs.map (·.1)).Nodup)
  (hk:∀ p∈xs,X.N[p.2]?=some p.1/\X.env.scope.names.lookup p.1=some .cell/\X.fn p.1=true) (ha:PA X (e::es) t) (P:(x == ("__debug__":Str))=false:=by decide) (he:starEach (e::es) X.env=(false,eval e X.env)::starEach es X.env:=by rfl) (N:(backTo pos (starEach es X.env)).any (·.1)=false:=by rfl) :
  PE X (.Call (.Name x p) (e::es) [] pos) (znm X.env xs sp E t):=by
 intro pins s σ H Q I h;refine Ze (zf3 I hg hm ?_ P);refine PySem.W.callWith_K (h₀:=X.base) I.ok.mod.kin O (thn (ha pos pins s σ H _ I h) λus s1 ⟨vs,H1,l,r,vals,Y,M,q⟩=>⟨l.kIn,?_⟩) he N;obtain⟨cs,c1,V,c3,U,T⟩:=l.cells nd hk Y M
 have cell:∀ b∈cs.map (·.2),∃ y o u,X.env.cells.lookup y=some b/\s1.heap.get? b=some o/\o.data=.cell (some u)/\X.s₀.heap.objs.size<=b:=λb hb=>by
  obtain⟨⟨y,c⟩,C,rfl⟩:=JH.mp hb;obtain⟨j,S,ej⟩:=Zm.mp C;have jv:j<vals.length:=by rw[<- U];exact S
  obtain⟨o,u,D,J,_,g4⟩:=T j y c vals[j] (by rw[J6 S,ej]) (J6 jv);exact⟨y,o,u,V (y,c) C,D,J,g4⟩
 have free:∀ b∈cs.map (·.2),H1 b=none:=λb hb=>by
  obtain⟨y,o,u,K,_⟩:=cell b hb;exact l.freeC y b K
 have nofr:∀ b∈cs.map (·.2),b∉frs X.stack:=λb hb hf=>by
  obtain⟨y,o,u,K,_,_,lo⟩:=cell b hb;rcases Jh.mp (l.stkSub b hf) with z|z
  ·exact l.cne y b K z
  ·obtain⟨_,o',ho,_⟩:=l.ok.funs.mem z
   exact absurd (JF (Jc ho) lo) (Yz _)
 let A:Hp:=λb=>if b∈cs.map (·.2) then (s1.heap.get? b).map FZ else H1 b
 have B:∀ {b:Addr}{o:Obj},b∈cs.map (·.2)->s1.heap.get? b=some o->A b=some (FZ o):=λ{b o} hb e=>by
  show (if b∈cs.map (·.2) then (s1.heap.get? b).map FZ else H1 b)=_;rw[Jf hb,e];rfl
 have d:∀ b,b∉cs.map (·.2)->A b=H1 b:=λb hb=>Ja hb
 have g:∀ {b:Addr}{o:HO},H1 b=some o->A b=some o:=λ{b o} e=>by
  rw[d b λhb=>by rw[free b hb]at e;cases e];exact e
 have ca:CellsAt A cs vals:=⟨U,λi y c v a b=>by
  obtain⟨o,u,D,J,g3,_⟩:=T i y c v a b
  exact⟨o,u,B (JH.mpr ⟨_,JP a,rfl⟩) D,J,g3⟩⟩
 have L:HOk X.prog X.w A s1.heap:=λb u e2=>by
  by_cases hb:b∈cs.map (·.2)
  ·obtain⟨y,o,u',_,D,_⟩:=cell b hb
   rw[B hb D]at e2;cases e2;exact zjw D
  ·rw[d b hb]at e2
   exact(l.hok b u e2).stay (λ_ _ _ z=>z) (λ_ z=>g z) λ_ _ z=>g z
 have m:=l.env0;have e2:Env0 X.prog X.w X.K X.mg X.base X.A X.stack s1 A:=⟨m.frames,m.mod,λb o z=>⟨(m.bs b o z).1,?_⟩,m.bsz,m.funs,λb hb=>?_,L,m.bare⟩
 rotate_left
 ·rw[d b λC=>?_];· exact(m.bs b o z).2
  ·obtain⟨y,o',u,_,_,_,lo⟩:=cell b C
   exact absurd (JF (Jc z) (JX l.ok.bsz lo)) (Yz _)
 ·rw[d b λC=>nofr b C hb];exact m.frf b hb
 have z:=q cs A c1 V c3 ca d free;have ul:us.length=ps.length:=by rw[<- r.length];exact F.len _ _ _ _ z
 refine wpAny_call (codeAny_mono (F.run X.A X.stack s1 A ⟨us,[]⟩ us vs _ E hr e2 (by have:=hb s1 us l.kIn (by rw[Yd];exact ul);rwa [Yd]at this) r z) λrs s' G=>?_)
 cases rs with
 | error e=>exact G.elim
 | ok fl =>
  cases fl with
  | next=>exact False.elim G
  | brk=>exact False.elim G
  | cont=>exact False.elim G
  | ret u =>
   obtain⟨v,W,os,bare,un,hok,Z,qq⟩:=G
   have R:CellsFz cs W:=λb hb=>by
    obtain⟨o,w⟩:=ca.fz b hb;exact⟨o,un.frzs b o _ w⟩
   have same:∀ b∈cs.map (·.2),∀ o,s1.heap.get? b=some o->s'.heap.get? b=some o:=λb hb o e=>by
    have:=un.frzs b o _ (B hb e);exact(hok b _ this).1
   refine l.after ⟨v,za1 cs W,os,bare,⟨λb o e n x y=>?_,λb o e n x y=>?_,λb o e n y=>?_,un.there,λb ys e=>?_,λb o w e=>?_,λb qs e=>?_⟩,zfb hok R,Z,qq⟩
   ·by_cases hb:b∈cs.map (·.2)
    ·exact same b hb o e
    ·exact un.keep b o e (by rw[d b hb];exact n) x y
   ·by_cases hb:b∈cs.map (·.2)
    ·exact⟨o.slots,same b hb o e⟩
    ·exact un.slot b o e (by rw[d b hb];exact n) x y
   ·by_cases hb:b∈cs.map (·.2)
    ·exact zb9 hb
    ·rw[zaA hb];exact un.free b o e (by rw[d b hb];exact n) y
   ·have hb:b∉cs.map (·.2):=λhb=>by rw[free b hb]at e;cases e
    rw[zaA hb];exact un.tups b ys (g e)
   ·have hb:b∉cs.map (·.2):=λhb=>by rw[free b hb]at e;cases e
    rw[zaA hb];exact un.frzs b o w (g e)
   ·have hb:b∉cs.map (·.2):=λhb=>by rw[free b hb]at e;cases e
    rw[zaA hb];exact un.tbls b qs (g e)
end
def lowQ (cl:List (Str × Addr)) (H:Hp) (Q:VK):VK:=λv H1=>(∀ b∈cl.map (·.2),H1 b=none)->Q v (back cl H H1)
section
variable {CX:CXT}{P:Program}{w:World}{K:PySem.W.Frag}{mg:Str->Option Value}{base:Heap}{L:Lam}{cl:List (Str × Addr)}{vals vs:List V}{ps:List Str}{f c:Addr}{A:Around}{outer:List Env}{s:Shared}{H:Hp}{us:List Value}{Q:VK}{E:XK}
theorem zk6 {k:Nat}(S:LamScope ps (cl.map (·.1)) L.scope) (i:Room (k+1) A) (a:Env0 P w K mg base A outer s H) (la:LamAt H f L cl vals) (r:Vals vs us) (j:vs.length=ps.length)
  (hb:∀ pm cdv ct,bindArgs (PySem.W.kla_fn "<lambda>" L.qual L.params L.body L.scope cl pm cdv ct) ⟨us,[]⟩=pure (ps.zip us))
  (d:∀ c,Room k (A.deeper (envL L cl s.heap.objs.size f c))->∃ t,PE (zm6 CX P w K mg base (ps++cl.map (·.1)) L cl f c A outer s H E) L.body t/\t ((vs++vals).map some) (za1 cl H) (lowQ cl H Q)) :
  codeAny (model P w) A (.call (.ref f) ⟨us,[]⟩) (CR CX outer P w H s Q E) s:=by
 obtain⟨pm,c,ct,oc,fs,l,h1,D,C,B⟩:=la.ex;have lim:s.heap.NoLimit:=a.mod.nolimit.keeps λb o e=>(a.bs b o e).1;have ul:us.length=ps.length:=by rw[<- r.length];exact j
 refine PySem.W.kla_callFunE i.depth (a.hok f _ h1).1 rfl S.co S.gen rfl ⟨c,oc,fs,l,rfl,(a.hok c _ D).1,C,B⟩ ?_;rw[show bindArgs _ _=_ from hb pm (.ref c) ct];refine J7 (wpAny_newFunctionEnv S.noc (λy n=>S.par y.1 (List.of_mem_zip n).1) (λh' ns sb=>?_) S.kind);have kp:∀ b o,s.heap.get? b=some o->h'.get? b=some o:=λb o e=>(sb.2 b (JA (Jc e))).trans (J8 _ e);refine⟨lim.keeps kp,PySem.W.kla_codeExpr ?_⟩;obtain⟨t,p,x⟩:=d c (i.deeper _);have I:=zmX (CX:=CX) (E:=E) (c:=c) (tk:=s.toks+(ps.zip us).length) S i.hd a la r j ns kp;refine JU (p [] _ _ _ _ I x) (λu s' h=>?_) λe s' h=>h;obtain⟨v,H1,J,m,q⟩:=h;have g:=la.fz
 have low:∀ b∈cl.map (·.2),H1 b=none:=λb hb=>by
  obtain⟨o,z⟩:=g b hb;exact J.base.free b o (a.hok b _ z).1 (zb9 hb) Je
 obtain⟨un,ok⟩:=zlP (H':=H1) J.base g a.frf (λb o z=>(a.hok b _ z).1) low J.hok;exact⟨v,_,J.os,J.bare,un,ok,m,q low⟩
end
abbrev LSpc:=List V->List V->Hp->VK->XK->Prop
structure LamQ (CX:CXT) (P:Program) (w:World) (K:PySem.W.Frag) (mg:Str->Option Value) (base:Heap) (k:Nat) (L:Lam) (fr ps:List Str) (sp:LSpc):Prop where
 S:LamScope ps fr L.scope
 len:∀ vals vs H Q E,sp vals vs H Q E->vs.length=ps.length
 bind:∀ (cl:List (Str × Addr)) (us:List Value),us.length=ps.length->∀ pm cdv ct,bindArgs (PySem.W.kla_fn "<lambda>" L.qual L.params L.body L.scope cl pm cdv ct) ⟨us,[]⟩=pure (ps.zip us)
 body:∀ (cl:List (Str × Addr)) (f c:Addr) (A:Around) (outer:List Env) (s:Shared) (H:Hp) (vals vs:List V) (Q:VK) (E:XK),cl.map (·.1)=fr->Room k (A.deeper (envL L cl s.heap.objs.size f c))->CellsFz cl H->sp vals vs (za1 cl H) Q E ->
  ∃ t,PE (zm6 CX P w K mg base (ps++fr) L cl f c A outer s H E) L.body t/\t ((vs++vals).map some) (za1 cl H) Q
def zog (L:Lam) (fr:List Str) (sp:LSpc) (E:XK) (i:Nat) (t:TA):TE:=λσ H Q=>∃ f,σ[i]?=some (some (.ref f))/\(∃ cl pm c ct,H f=some (FZ (lamO L cl pm c ct)))/\t σ H λvs H1=>∃ cl vals,cl.map (·.1)=fr/\LamAt H1 f L cl vals/\sp vals vs (za1 cl H1) (lowQ cl H1 Q) E
section
variable {X:Cx}{CX:CXT}{k:Nat}{L:Lam}{fr ps:List Str}{sp:LSpc}{E:XK}{x:Str}{i:Nat}{p pos:Pos}{e:Expr}{es:List Expr}{t:TA}
theorem zmn (F:LamQ CX X.prog X.w X.K X.mg X.base k L fr ps sp) (C:Room (k+1) X.A) (J:PE X (.Name x p) (tVar i)) (A:Passes CX X E) (ha:PA X (e::es) t) (G:starEach (e::es) X.env=(false,eval e X.env)::starEach es X.env:=by rfl) (l:(backTo pos (starEach es X.env)).any (·.1)=false:=by rfl) :
  PE X (.Call (.Name x p) (e::es) [] pos) (zog L fr sp E i t):=by
 intro pins s σ H Q I h;obtain⟨f,D,⟨S,P,c0,R,m⟩,q⟩:=h;refine Ze (thn (J pins s σ H (λv H'=>v=.ref f/\H'=H) I ⟨_,D,rfl,rfl⟩) λg w ⟨v,O,o,y,ev,K⟩=>?_);subst ev K;obtain rfl:g=.ref f:=y;refine PySem.W.callWith_F ⟨_,_,_,_,(o.hok f _ m).1⟩ ?_ G l;refine thn (ha pos pins w σ O _ o q) λus s1 ⟨vs,H1,b,r,cl,vals,d,la,z⟩=>?_;obtain⟨pm,c,ct,oc,fs,T,h1,W,V,U⟩:=la.ex;have n:=F.len _ _ _ _ _ z;have ul:us.length=ps.length:=by rw[<- r.length];exact n
 have N:LamScope ps (cl.map (·.1)) L.scope:=by rw[d];exact F.S
 refine⟨⟨_,_,_,_,(b.hok f _ h1).1⟩,?_⟩;refine wpAny_call (codeAny_mono (zk6 (CX:=CX) (E:=E) (Q:=Q) N C b.env0 la r n (F.bind cl us ul) λM j=>?_) λrs s' a=>?_)
 ·obtain⟨t',B,a⟩:=F.body cl f M X.A X.stack s1 H1 vals vs _ E d j la.fz z
  exact⟨t',by rw[d];exact B,a⟩
 ·cases rs with
  | error e=>exact A pins σ H1 s1 e s' b a
  | ok fl =>
   cases fl with
   | ret u=>exact b.after a
   | next=>exact False.elim a
   | brk=>exact False.elim a
   | cont=>exact False.elim a
end
abbrev LvL:=List (KN × List Int)
def getL (ps:LvL) (k:KN):Option (List Int):=(ps.find? λx=>decide (x.1=k)).map (·.2)
def putL (ps:LvL) (k:KN) (c:List Int):LvL:=if (getL ps k).isSome then ps.map λx=>if x.1=k then (x.1,c) else x else ps++[(k,c)]
def oneM (c:List Int) (m:Nat):List Int:=Bn.zaD c m 1
structure LAcc where
 on:LvL
 fl:List (List Int)
section
variable (step:KN->Nat->Option KN)(seen:LvL)
def go1 (s:KN) (c:List Int) (a:LAcc) (m:Nat):LAcc :=
 match step s m with
 | none=>⟨a.on,a.fl++[oneM c m]⟩
 | some t=>if (getL seen t).isSome then a else ⟨putL a.on t (minR (oneM c m) ((getL a.on t).getD (oneM c m))),a.fl⟩
def goS (moves:List Nat) (a:LAcc) (p:KN × List Int):LAcc:=moves.foldl (go1 step seen p.1 p.2) a
def zbj (moves:List Nat) (level:LvL):LAcc:=level.foldl (goS step seen moves) ⟨[],[]⟩
end
inductive LRes
 | opn
 | brk (c:List Int)
 | whl (ls:List LvL)
def za5 (step:KN->Nat->Option KN) (moves:List Nat) (most:Nat):Nat->LvL->LvL->List LvL->LRes
 | 0,_,_,_=>.opn
 | n+1,level,seen,ls =>
  if level=[] then .whl ls else
  if most<seen.length+level.length then .opn else
  if (zbj step (seen++level) moves level).fl≠[] then .brk (minL (zbj step (seen++level) moves level).fl) else
  za5 step moves most n (zbj step (seen++level) moves level).on (seen++level) (ls++[level])
def LvX (H:Hp) (x:KN × Addr × V) (p:KN × List Int):Prop:=x.1=p.1/\∃ c,x.2.2=.ref c/\H c=some (.tup (p.2.map V.int))
structure LvE (H:Hp) (xs:KVN) (ps:LvL):Prop where
 ks:KsIn H xs
 pr:Paired (LvX H) xs ps
theorem zdd {α β:Type}{F G:α->β->Prop}(h:∀ a b,F a b->G a b) {l1:List α}{l2:List β}(p:Paired F l1 l2):Paired G l1 l2:=by
 induction p with
 | nil=>exact .nil
 | cons a _ ih=>exact .cons (h _ _ a) ih
theorem LvX.tups {H H':Hp}(t:∀ b ys,H b=some (.tup ys)->H' b=some (.tup ys)) {x:KN × Addr × V}{p:KN × List Int}(h:LvX H x p):LvX H' x p:=by
 obtain⟨e,c,e2,a⟩:=h;exact⟨e,c,e2,t _ _ a⟩
theorem LvE.tups {H H':Hp}(t:∀ b ys,H b=some (.tup ys)->H' b=some (.tup ys)) {xs:KVN}{ps:LvL}(h:LvE H xs ps):LvE H' xs ps:=⟨h.ks.tups t,zdd (λ_ _ z=>z.tups t) h.pr⟩
theorem LvE.keep {H H':Hp}(s:Same H H') {xs:KVN}{ps:LvL}(h:LvE H xs ps):LvE H' xs ps:=h.tups λb ys e=>s _ _ e
theorem LvE.nil {H:Hp}:LvE H [] []:=⟨λx a=>(nomatch a),.nil⟩
theorem LvE.len {H:Hp}{xs:KVN}{ps:LvL}(h:LvE H xs ps):xs.length=ps.length:=Z0 h.pr
theorem zlA {H:Hp}{xs:KVN}{ps:LvL}(h:Paired (LvX H) xs ps) (k:KN):(valN xs k=none/\getL ps k=none)\/∃ c r,valN xs k=some (.ref c)/\getL ps k=some r/\H c=some (.tup (r.map V.int)):=by
 induction h with
 | nil=>exact Or.inl (And.intro rfl rfl)
 | @cons x p xs ps a t ih =>
  obtain⟨e,c,e2,b⟩:=a;unfold valN getL at ih ⊢;rw[YW,YW,e];by_cases z:p.1=k
  ·rw[JG z]
   exact .inr ⟨c,p.2,JR some e2,rfl,b⟩
  ·rw[Jv z]
   exact ih
theorem ze4 {H:Hp}{xs:KVN}{ps:LvL}(h:Paired (LvX H) xs ps) (k:KN):(valN xs k).isSome=(getL ps k).isSome:=by
 rcases zlA h k with ⟨a,b⟩|⟨c,r,a,b,_⟩<;>rw[a,b]<;>rfl
theorem znO {H:Hp}{xs:KVN}{ps:LvL}(h:Paired (LvX H) xs ps) (k:KN) {c:Addr}{r:List Int}(b:H c=some (.tup (r.map V.int))):Paired (LvX H) (xs.map λx=>if x.1=k then (x.1,x.2.1,.ref c) else x) (ps.map λx=>if x.1=k then (x.1,r) else x):=by
 induction h with
 | nil=>exact .nil
 | @cons x p xs ps a t ih =>
  refine .cons ?_ ih;dsimp only;by_cases z:p.1=k
  ·rw[Jf (a.1.trans z),Jf z];exact⟨a.1,c,rfl,b⟩
  ·rw[Ja (λy=>z (a.1.symm.trans y)),Ja z];exact a
theorem LvE.put {H:Hp}{xs:KVN}{ps:LvL}(h:LvE H xs ps) {k:KN}{b c:Addr}{r:List Int}(f:NKey H k b) (d:H c=some (.tup (r.map V.int))):LvE H (putN xs k b (.ref c)) (putL ps k r):=by
 unfold putN putL;rw[ze4 h.pr k];by_cases z:(getL ps k).isSome=true
 ·rw[Jf z,Jf z]
  refine⟨λx a=>?_,znO h.pr k d⟩;obtain⟨y,e,rfl⟩:=JH.mp a;have:=h.ks y e;split<;>exact this
 ·rw[Ja z,Ja z]
  refine⟨λx a=>?_,Paired.snoc h.pr ⟨rfl,c,rfl,d⟩⟩;rcases Jx.mp a with y|y
  ·exact h.ks x y
  ·rw[Jd.mp y];exact f
theorem zhn {α β:Type}{F:α->β->Prop}{e:List α}{c:List β}(p:Paired F e c) {d:List α}{b:List β}(q:Paired F d b):Paired F (e++d) (c++b):=by
 induction p with
 | nil=>exact q
 | cons a _ ih=>exact .cons a ih
theorem LvE.app {H:Hp}{xs ys:KVN}{ps a:LvL}(h:LvE H xs ps) (g:LvE H ys a):LvE H (xs++ys) (ps++a):=⟨λx b=>by
 rcases Jx.mp b with y|y
 ·exact h.ks x y
 ·exact g.ks x y,zhn h.pr g.pr⟩
theorem LvE.at_ {H:Hp}{xs:KVN}{ps:LvL}(h:LvE H xs ps) {i:Nat}{p:KN × Addr × V}(e:xs[i]?=some p):∃ r c,ps[i]?=some (p.1,r)/\NKey H p.1 p.2.1/\p.2.2=.ref c/\H c=some (.tup (r.map V.int)):=by
 have key:∀ {xs:KVN}{ps:LvL},Paired (LvX H) xs ps->∀ {i:Nat}{p:KN × Addr × V},xs[i]?=some p->∃ q,ps[i]?=some q/\LvX H p q:=by
  intro xs ps r
  induction r with
  | nil=>intro i p h;cases h
  | cons q t ih =>
   intro i p h
   cases i with
   | zero=>cases Js h;exact⟨_,rfl,q⟩
   | succ i=>exact ih h
 obtain⟨q,e2,d,c,b,a⟩:=key h.pr e;refine⟨q.2,c,?_,h.ks p (JP e),b,a⟩;rw[e2,d]
theorem zfd {ps:LvL}{k:KN}:getL ps k=none↔∀ p∈ps,p.1≠k:=by
 unfold getL;rw[Option.map_eq_none_iff,List.find?_eq_none];constructor
 ·intro h p a e;exact h p a (JG e)
 ·intro h p a e;exact h p a (ZY e)
theorem zbp {ps:LvL}{k:KN}{r:List Int}(h:getL ps k=some r):(k,r)∈ps:=by
 unfold getL at h;obtain⟨p,a,e⟩:=Y8.mp h;have h1:=List.mem_of_find?_eq_some a;have b:=List.find?_some (p:=λx:KN × List Int=>decide (x.1=k)) a;have c:=ZY b;rw[<- c,<- e];exact h1
theorem zbP {ps:LvL}{k:KN}(h:(getL ps k).isSome=true):∃ r,(k,r)∈ps:=by
 obtain⟨r,e⟩:=ZM.mp h;exact⟨r,zbp e⟩
theorem zbY {ps:LvL}{k:KN}{r:List Int}(h:(k,r)∈ps):(getL ps k).isSome=true:=by
 cases e:getL ps k with
 | some r=>rfl
 | none=>exact absurd rfl (zfd.mp e _ h)
theorem zbF (a b:LvL) (k:KN):(getL (a++b) k).isSome=((getL a k).isSome || (getL b k).isSome):=by
 rw[YE,Wf];constructor
 ·intro h
  obtain⟨r,c⟩:=zbP h;rcases Jx.mp c with y|y
  ·exact .inl (zbY y)
  ·exact .inr (zbY y)
 ·rintro (h|h)
  ·obtain⟨r,c⟩:=zbP h;exact zbY (Ym _ c)
  ·obtain⟨r,c⟩:=zbP h;exact zbY (Jz _ c)
def LvNd (ps:LvL):Prop:=(ps.map (·.1)).Nodup
theorem zix (ps:LvL) (k:KN) (r:List Int):(putL ps k r).map (·.1)=if (getL ps k).isSome then ps.map (·.1) else ps.map (·.1)++[k]:=by
 unfold putL;split
 ·rw[Zv]
  refine Wj λx a=>?_;show (if x.1=k then (x.1,r) else x).1=x.1;split<;>rfl
 ·rw[JN];rfl
theorem LvNd.put {ps:LvL}(h:LvNd ps) (k:KN) (r:List Int):LvNd (putL ps k r):=by
 unfold LvNd;rw[zix];split
 ·exact h
 ·rename_i z
  refine List.nodup_append.mpr ⟨h,JJ.mpr ⟨Je,Zs⟩,λa ha b hb e=>?_⟩;rw[Jd.mp hb]at e;obtain⟨p,c,rfl⟩:=JH.mp ha;exact z (zbY (k:=k) (r:=p.2) (by rw[<- e];exact c))
theorem zej {ps:LvL}{k:KN}{r:List Int}{p:KN × List Int}(h:p∈putL ps k r):p∈ps\/p=(k,r):=by
 unfold putL at h;split at h
 ·obtain⟨x,a,rfl⟩:=JH.mp h
  by_cases z:x.1=k
  ·rw[Jf z,z];exact .inr rfl
  ·rw[Ja z];exact .inl a
 ·rcases Jx.mp h with y|y
  ·exact .inl y
  ·exact .inr (Jd.mp y)
theorem zkm (ps:LvL) (k:KN) (r:List Int):(putL ps k r).length<=ps.length+1:=by
 unfold putL;split
 ·rw[Jm];lia
 ·rw[Jn];exact Jg _
theorem ze2:∀ (ys xs:KVN),(ys.map (·.1)).Nodup->(∀ y∈ys,∀ x∈xs,x.1≠y.1)->zcL xs ys=xs++ys
 | [],xs,_,_=>by rw[Yd];rfl
 | y::ys,xs,nd,ds=>by
  rw[Y6,JJ]at nd
  have e:putN xs y.1 y.2.1 y.2.2=xs++[y]:=by
   unfold putN
   have:valN xs y.1=none:=by
    unfold valN;rw[Option.map_eq_none_iff,List.find?_eq_none];exact λx a z=>ds y (.head _) x a (ZY z)
   rw[this];rfl
  show List.foldl _ (putN xs y.1 y.2.1 y.2.2) ys=_;rw[e]
  have:=ze2 ys (xs++[y]) nd.2 λz hz x a=>by
   rcases Jx.mp a with q|q
   ·exact ds z (.tail _ hz) x q
   ·rw[Jd.mp q]
    exact λe=>nd.1 (JH.mpr ⟨z,hz,e.symm⟩)
  rw[show List.foldl (λacc y=>putN acc y.1 y.2.1 y.2.2) (xs++[y]) ys=zcL (xs++[y]) ys from rfl,this,JY];rfl
theorem zf0 {H:Hp}{xs:KVN}{ps:LvL}(h:Paired (LvX H) xs ps):xs.map (·.1)=ps.map (·.1):=by
 induction h with
 | nil=>rfl
 | cons a _ ih=>rw[Y6,Y6,ih,a.1]
theorem LvE.merge {H:Hp}{xs ys:KVN}{ps a:LvL}(h:LvE H xs ps) (g:LvE H ys a) (nd:LvNd a) (ds:∀ q∈a,getL ps q.1=none):zcL xs ys=xs++ys:=by
 refine ze2 ys xs (by rw[zf0 g.pr];exact nd) λy d x f e=>?_;have c:y.1∈a.map (·.1):=by rw[<- zf0 g.pr];exact JH.mpr ⟨y,d,rfl⟩
 obtain⟨q,i,eq⟩:=JH.mp c;have b:x.1∈ps.map (·.1):=by rw[<- zf0 h.pr];exact JH.mpr ⟨x,f,rfl⟩
 obtain⟨p,j,ep⟩:=JH.mp b;exact zfd.mp (ds q i) p j (ep.trans (e.trans eq.symm))
end L2
namespace L2
open PySem PySem.Spec PyProof.Rows Own Bn
theorem Room.u3 {k:Nat}{A:Around}(r:Room k A):A.units+3<cLine:=by have:=r.un;lia
def RowsAt (H:Hp) (as:List Addr) (rs:List (List Int)):Prop:=Paired (λa r=>H a=some (.tup (r.map V.int))) as rs
theorem RowsAt.tups {H H':Hp}(t:Tups H H') {as:List Addr}{rs:List (List Int)}(h:RowsAt H as rs):RowsAt H' as rs:=zdd (λ_ _ e=>t _ _ e) h
structure AccOk (n m:Nat) (a:LAcc):Prop where
 on:∀ p∈a.on,p.2.length=n
 fl:∀ r∈a.fl,r.length=n
 few:a.on.length+a.fl.length<=m
theorem zcT (c:List Int) (m:Nat):(oneM c m).length=c.length:=by unfold oneM zaD;rw[Z9]
theorem zfX (x y:List Int):minR x y=x\/minR x y=y:=by unfold minR;split<;>simp
theorem AccOk.go {step:KN->Nat->Option KN}{seen:LvL}{s:KN}{c:List Int}{a:LAcc}{n m k:Nat}(h:AccOk n m a) (f:c.length=n):AccOk n (m+1) (go1 step seen s c a k):=by
 have hm:(oneM c k).length=n:=by rw[zcT,f]
 have j:=h.few;unfold go1;split
 ·refine⟨h.on,λr b=>?_,by show a.on.length+(a.fl++[oneM c k]).length<=_;rw[Jn];show _+(_+1)<=_;lia⟩
  rcases Jx.mp b with z|z
  ·exact h.fl r z
  ·rw[Jd.mp z];exact hm
 ·rename_i t i
  split
  ·exact⟨h.on,h.fl,by lia⟩
  ·refine⟨λp d=>?_,h.fl,by have:=zkm a.on t (minR (oneM c k) ((getL a.on t).getD (oneM c k)));show (putL a.on t _).length+a.fl.length<=_;lia⟩
   rcases zej d with z|z
   ·exact h.on p z
   ·rw[z]
    show (minR _ _).length=n;rcases zfX (oneM c k) ((getL a.on t).getD (oneM c k)) with e|e
    ·rw[e];exact hm
    ·rw[e]
     cases g:getL a.on t with
     | none=>exact hm
     | some r=>exact h.on _ (zbp g)
theorem AccOk.row {step:KN->Nat->Option KN}{seen:LvL}{s:KN}{c:List Int}{n:Nat}(b:c.length=n):∀ (moves:List Nat) {a:LAcc}{m:Nat},AccOk n m a->AccOk n (m+moves.length) (moves.foldl (go1 step seen s c) a)
 | [],a,m,h=>h
 | k::r,a,m,h=>by
  have:=AccOk.row (step:=step) (seen:=seen) (s:=s) (c:=c) b r (h.go (step:=step) (seen:=seen) (s:=s) (k:=k) b);rw[JW,show m+(r.length+1)=m+1+r.length by lia];exact this
theorem AccOk.lev {step:KN->Nat->Option KN}{seen:LvL}{n:Nat}{moves:List Nat}:∀ (level:LvL) {a:LAcc}{m:Nat},(∀ p∈level,p.2.length=n)->AccOk n m a->AccOk n (m+level.length*moves.length) (level.foldl (goS step seen moves) a)
 | [],a,m,_,h=>by rw[Wg,Nat.zero_mul];exact h
 | p::r,a,m,b,h=>by
  have:=AccOk.lev (step:=step) (seen:=seen) (moves:=moves) r (λq c=>b q (.tail _ c)) (AccOk.row (step:=step) (seen:=seen) (s:=p.1) (b p (.head _)) moves h);rw[JW,Nat.add_mul,Nat.one_mul,show m+(r.length*moves.length+moves.length)=m+moves.length+r.length*moves.length by lia];exact this
def Led (lsp:LSpc) (vals:List V) (step:KN->Nat->Option KN) (Ok:KN->Prop) (moves:List Nat) (H:Hp):Prop :=
 ∀ (H1:Hp) (s:KN) (b:Addr) (m:Nat) (Q:VK),Tups H H1->Ok s->m∈moves->NKey H1 s b->(∀ a,Same H1 a->step s m=none->Q .non a)->(∀ a c t,Same H1 a->step s m=some t->NKey a t c->Q (.ref c) a)->lsp vals [.ref b,.int (m:Nat)] H1 Q E0
theorem Led.tups {lsp:LSpc}{vals:List V}{step:KN->Nat->Option KN}{Ok:KN->Prop}{moves:List Nat}{H H':Hp}(h:Led lsp vals step Ok moves H) (t:Tups H H'):Led lsp vals step Ok moves H':=λH1 s b m Q t1=>h H1 s b m Q (t.trans t1)
theorem zdD {H:Hp}{cl:List (Str × Addr)}(fz:CellsFz cl H):Tups H (za1 cl H):=λa xs e=>by
 rw[zaA]
 ·exact e
 ·intro b
  obtain⟨o,q⟩:=fz a b;rw[e]at q;cases q
theorem zeM {H a:Hp}{cl:List (Str × Addr)}(s:Same (za1 cl H) a):Same H (back cl H a):=λb o e=>by
 by_cases c:b∈cl.map (·.2)
 ·rw[zgk c];exact e
 ·rw[zbs c];exact s b o (by rw[zaA c];exact e)
theorem zh2 {H a:Hp}{cl:List (Str × Addr)}(low:∀ b∈cl.map (·.2),a b=none):Tups a (back cl H a):=λb xs e=>by
 rw[zbs]
 ·exact e
 ·intro c
  rw[low b c]at e;cases e
def MvAt (K:PySem.W.Frag) (H:Hp) (a:Addr) (xs:List V):Prop:=H a=some (.tup xs)\/∀ H',SqT K H' a xs
theorem MvAt.tups {K:PySem.W.Frag}{H H':Hp}(t:Tups H H') {a:Addr}{xs:List V}(h:MvAt K H a xs):MvAt K H' a xs:=h.imp (t _ _) id
theorem MvAt.sq {K:PySem.W.Frag}{H:Hp}{a:Addr}{xs:List V}(h:MvAt K H a xs):SqT K H a xs:=h.elim SqT.of λz=>z H
structure Way (K:PySem.W.Frag) (H:Hp) (mv f:Addr) (L:Lam) (fr:List Str) (lsp:LSpc) (cl:List (Str × Addr)) (vals:List V) (step:KN->Nat->Option KN) (Ok:KN->Prop) (moves:List Nat) (n:Nat):Prop where
 mv:MvAt K H mv (moves.map λm=>V.int (m:Nat))
 fr:cl.map (·.1)=fr
 la:LamAt H f L cl vals
 ld:Led lsp vals step Ok moves H
 lt:∀ m∈moves,m<n
 ok:∀ s m t,Ok s->m∈moves->step s m=some t->Ok t
 n1:n<=1000
theorem Way.keep {K:PySem.W.Frag}{H H':Hp}{mv f:Addr}{L:Lam}{fr:List Str}{lsp:LSpc}{cl:List (Str × Addr)}{vals:List V}{step:KN->Nat->Option KN}{Ok:KN->Prop}{moves:List Nat}{n:Nat}(h:Way K H mv f L fr lsp cl vals step Ok moves n) (t:Tups H H') (z:∀ b o u,H b=some (.frz o u)->H' b=some (.frz o u)):Way K H' mv f L fr lsp cl vals step Ok moves n :=
 ⟨h.mv.tups t,h.fr,h.la.frz z,h.ld.tups t,h.lt,h.ok,h.n1⟩
def zid (P:Program) (w:World) (K:PySem.W.Frag) (L:Lam) (fr:List Str) (lsp:LSpc):Sp:=λvs H Q _=>∃ dl ds mv f xs ys level seen moves cl vals step Ok n,vs=[.ref dl,.ref ds,.ref mv,.ref f]/\H dl=some (DN P w dl xs)/\LvE H xs level/\H ds=some (DN P w ds ys)/\LvE H ys seen/\dl≠ds /\
 Way K H mv f L fr lsp cl vals step Ok moves n/\(∀ p∈level,Ok p.1/\p.2.length=n)/\level.length*moves.length<=10000000 /\
 ∀ p o l zs fs H',Same H H'->H o=none->H' p=some (.tup [.ref o,.ref l])->H' o=some (DN P w o zs)->LvE H' zs (zbj step seen moves level).on->H' l=some (.lst (fs.map V.ref))->RowsAt H' fs (zbj step seen moves level).fl->Q (.ref p) H'
end L2
namespace K64
open PySem L2 Own Bn
abbrev sNxl:Stmt:=top 16
theorem zjx {d:Addr}{H H':Hp}{P:Program}{w:World}{xs:KVN}(b:But d H H') (hd:H d=some (DN P w d xs)):∀ c o u,H c=some (.frz o u)->H' c=some (.frz o u):=λc o u e=>b c _ e λz=>by
 rw[z,hd]at e;cases e
theorem zbU {d:Addr}{H H':Hp}{P:Program}{w:World}{xs:KVN}(b:But d H H') (hd:H d=some (DN P w d xs)):Tups H H':=λc ys e=>b c _ e λz=>by
 rw[z,hd]at e;cases e
theorem zfY {a b:List Int}(h:a.map V.int=b.map V.int):a=b:=(List.map_inj_right λx y (e:V.int x=V.int y)=>by injection e).mp h
section
variable {P:Program}{w:World}{K:PySem.W.Frag}{mg:Str->Option Value}{base:Heap}
theorem scNx:FnScope ["level","seen","moves","led","onward","faults","state","counts","move","there","more"] ["level","seen","moves","led"] (zaj sNxl):=by trivial
theorem zmw {f fA:Addr}{fd dA:FuncData}{L:Lam}{fr aL:List Str}{lsp:LSpc}(F:Fun K "next_level" "next_level" sNxl f fd) (G:Mgs mg) (UA:Use P w K mg base "added" ["counts","place","many"] 2 zfG fA dA) (LQ:LamQ CX0 P w K mg base 4 L fr aL lsp):FnOk P w K mg base CX0 6 f fd ["level","seen","moves","led"] (zid P w K L fr lsp):=by
 refine F.ok scNx (λvs H Q E h=>?_) (λcdv A outer s H vs Q E hr h=>?_)
 ·obtain⟨dl,ds,mv,f,xs,ys,level,seen,moves,cl,vals,step,Ok,n,rfl,_⟩:=h
  rfl
 obtain⟨dl,ds,mv,f,xs,ys,level,seen,moves,cl,vals,step,Ok,n,rfl,D,lvl,aD,ao,aH,W,aM,few,k⟩:=h;refine⟨_,(@zaf _ _ _ _ _ (@zaq _ _ 4 _ _ _ _ scNx.nd rfl (.inl rfl) ziE (by rfl) (by trivial)) (@zaf _ _ _ _ _ (@zaq _ _ 5 _ _ _ _ scNx.nd rfl (.inl rfl) (@zba _ _ _ _ zad) (by rfl) (by trivial)) (@zaf _ _ _ _ _ (zko (@zbx _ _ _ _ _ _ _ _ Yx rfl (ziC (@qv _ 0 _ _ (by trivial))) (@zaV _ _ _ _ _ _ rfl (@zam _ _ _ _ _ (@zak _ _ 6 _ scNx.nd rfl (.inl rfl) (by trivial)) (@zam _ _ _ _ _ (@zak _ _ 7 _ scNx.nd rfl (.inl rfl) (by trivial)) zaF (by rfl)) (by rfl)) (by rfl) (by rfl)) (@zai _ _ _ (@zbx _ _ _ _ _ _ _ _ Yx rfl (@zdb _ _ _ _ (@qv _ 2 _ _ (by trivial))) (@zak _ _ 8 _ scNx.nd rfl (.inl rfl) (by trivial)) (@zaf _ _ _ _ _ (@zaq _ _ 9 _ _ _ _ scNx.nd rfl (.inl rfl) (zmn LQ hr (@qv _ 3 _ _ (by trivial)) zaw (@zaa _ _ _ _ _ (@qv _ 6 _ _ (by trivial)) (@zaa _ _ _ _ _ (@qv _ 8 _ _ (by trivial)) zad (by rfl)) (by rfl))) (by rfl) (by trivial)) (@zaf _ _ _ _ _ (@zbw _ _ _ _ _ _ _ _ (@zaE _ _ _ _ _ _ _ _ (znB hr.u3) (@qv _ 9 _ _ (by trivial)) (@qv _ 1 _ _ (by trivial)) (by rfl)) (@zai _ _ _ zfR) zaI) (@zaf _ _ _ _ _ (@zaq _ _ 10 _ _ _ _ scNx.nd rfl (.inl rfl) (@zal _ _ _ _ _ _ _ _ _ _ _ _ _ _ _ _ UA.ok (hr.mono (by decide)) (by rfl) UA.m UA.kp UA.b .nil zaw (@zaa _ _ _ _ _ (@qv _ 7 _ _ (by trivial)) (@zaa _ _ _ _ _ (@qv _ 8 _ _ (by trivial)) (@zaa _ _ _ _ _ zah zad (by rfl)) (by rfl)) (by rfl)) (by decide) (by rfl) (by rfl)) (by rfl) (by trivial)) (@zai _ _ _ (@zbw _ _ _ _ _ _ _ _ (@zaE _ _ _ _ _ _ _ _ znA (@qv _ 9 _ _ (by trivial)) ziD (by rfl)) (@zai _ _ _ (@zbg _ _ _ _ (@zdc _ _ _ _ _ _ _ _ _ _ _ _ Yp YJ YK zaW (@qv _ 5 _ _ (by trivial)) (@zaa _ _ _ _ _ (@qv _ 10 _ _ (by trivial)) zad (by rfl)) (by rfl) (by rfl) (by rfl) (by rfl) (by rfl)) (by rfl))) (@zai _ _ _ (zmg hr.u3 (@qv _ 4 _ _ (by trivial)) (@qv _ 9 _ _ (by trivial)) (@zau _ _ _ _ _ _ _ _ _ (zhM rfl hr.units) (by rfl) G.min (by rfl) (@zaa _ _ _ _ _ (@qv _ 10 _ _ (by trivial)) (@zaa _ _ _ _ _ (zkw hr.u3 (@qv _ 4 _ _ (by trivial)) (@qv _ 9 _ _ (by trivial)) (@qv _ 10 _ _ (by trivial)) ⟨rfl,rfl,rfl,rfl⟩) zad (by rfl)) (by rfl)) (by decide) (by decide) (by rfl) (by rfl)) (by rfl)))))))) (by intro _;rfl))) (by intro _;rfl))) (@zai _ _ _ (@zap _ _ _ _ (@zaB _ _ _ _ _ (@zaa _ _ _ _ _ (@qv _ 4 _ _ (by trivial)) (@zaa _ _ _ _ _ (@qv _ 5 _ _ (by trivial)) zad (by rfl)) (by rfl)))))))),?_⟩;refine λo ho=>⟨by show 0<=sizeLine;decide,λl hl=>?_⟩;have s1:=zac ho (DN P w o []);have s2:=zac (show L2.upd H o (DN P w o []) l=none from hl) (.lst []);have u2:=s1.trans s2
 have ol:o≠l:=λz=>by
  have aj:L2.upd H o (DN P w o []) l=none:=hl;rw[<- z,zab]at aj;cases aj
 have aC:H l=none:=by
  have aj:L2.upd H o (DN P w o []) l=none:=hl
  rwa [zag ol.symm]at aj
 have ax:dl≠o:=zae D ho;have ay:dl≠l:=zae D aC;have aQ:L2.upd (L2.upd H o (DN P w o [])) l (.lst []) o=some (DN P w o []):=by rw[zag ol];exact zab
 have aR:L2.upd (L2.upd H o (DN P w o [])) l (.lst []) l=some (.lst []):=zab;refine⟨_,rfl,dl,xs,rfl,u2 _ _ D,λob=>?_⟩
 let C:Nat->LAcc:=λi=>(level.take i).foldl (goS step seen moves) ⟨[],[]⟩
 have ll:xs.length=level.length:=lvl.len;refine zhL (P:=P) (w:=w) (d:=dl) (o:=ob) (xs:=xs) (λi σ Y=>(∃ v6 v7 v8 v9 v10,σ=[some (.ref dl),some (.ref ds),some (.ref mv),some (.ref f),some (.ref o),some (.ref l),v6,v7,v8,v9,v10])/\But dl H Y/\Y dl=some (.frz ob (DN P w dl xs))/\∃ zs fs,Y o=some (DN P w o zs)/\LvE Y zs (C i).on/\Y l=some (.lst (fs.map V.ref))/\RowsAt Y fs (C i).fl/\AccOk n (i*moves.length) (C i)) ?_ (λi σ Y _ q=>q.2.2.1) ?_ ?_
 ·refine⟨⟨_,_,_,_,_,rfl⟩,λb u e ne=>?_,zab,[],[],?_,LvE.nil,?_,.nil,⟨λp hp=>(nomatch hp),λr hr=>(nomatch hr),by show 0+0<=_;lia⟩⟩
  ·rw[zag ne];exact u2 b u e
  ·rw[zag ax.symm];exact aQ
  ·rw[zag ay.symm];exact aR
 ·rintro i p σ Y T hp hT ⟨⟨v6,v7,v8,v9,v10,rfl⟩,bt,ak,zs,fs,aq,ah,au,rws,aI⟩
  have il:i<level.length:=by rw[<- ll];exact(J9.mp hp).1
  obtain⟨r,c,ep,kb,ec,hc⟩:=(lvl.tups (zbU bt D)).at_ hp;have pin:(p.1,r)∈level:=JP ep;obtain⟨aJ,rl⟩:=aM _ pin;rw[ec];have sT:=zac hT (.tup [.ref p.2.1,.ref c]);refine⟨T,_,rfl,SqT.of zab,rfl,_,_,rfl,_,_,rfl,rfl,?_⟩;have W2:=W.keep (zbU bt D) (zjx bt D);refine⟨_,rfl,mv,rfl,⟨_,(W2.mv.tups (Tups.of sT)).sq⟩,?_⟩
  have aK:C (i+1)=goS step seen moves (C i) (p.1,r):=by
   show List.foldl _ _ (level.take (i+1))=_;rw[<- Z2 il,Z6,show level[i]=(p.1,r) from (J9.mp ep).2];rfl
  generalize hA:C i=a0 at *
  let B:Nat->LAcc:=λj=>(moves.take j).foldl (go1 step seen p.1 r) a0
  have fin:B moves.length=C (i+1):=by rw[aK];show List.foldl _ _ (moves.take moves.length)=_;rw[Yq];rfl
  have ml:(moves.map λm=>V.int (m:Nat)).length=moves.length:=Jm _;refine zet (K:=K) (a:=mv) (xs:=moves.map λm=>V.int (m:Nat)) (λj σ H3=>(∃ v8 v9 v10,σ=[some (.ref dl),some (.ref ds),some (.ref mv),some (.ref f),some (.ref o),some (.ref l),some (.ref p.2.1),some (.ref c),v8,v9,v10])/\But dl H H3/\H3 dl=some (.frz ob (DN P w dl xs))/\∃ zs fs,H3 o=some (DN P w o zs)/\LvE H3 zs (B j).on/\H3 l=some (.lst (fs.map V.ref))/\RowsAt H3 fs (B j).fl/\AccOk n (i*moves.length+j) (B j)) ?_ (λj σ H3 _ q=>(W.mv.tups (zbU q.2.1 D)).sq) ?_ ?_
  ·exact⟨⟨_,_,_,rfl⟩,bt.trans (But.of sT),sT _ _ ak,zs,fs,sT _ _ aq,ah.keep sT,sT _ _ au,rws.tups (Tups.of sT),aI⟩
  ·rintro j x σ H3 hx ⟨⟨v8,v9,v10,rfl⟩,aa,af,N,X,ad,Z,ae,U,I⟩
   rw[JL]at hx;obtain⟨m,em,rfl⟩:=Y8.mp hx;have jl:j<moves.length:=(J9.mp em).1;have mm:m∈moves:=JP em
   have ag:B (j+1)=go1 step seen p.1 r (B j) m:=by
    show List.foldl _ _ (moves.take (j+1))=_;rw[<- Z2 jl,Z6,show moves[j]=m from (J9.mp em).2];rfl
   have R:=I.go (step:=step) (seen:=seen) (s:=p.1) (k:=m) rl;rw[<- ag]at R;have t3:=zbU aa D;have W3:=W.keep t3 (zjx aa D);obtain⟨pm,cc,ct,oc,fz,tk,aP,_⟩:=W3.la.ex;have aN:=lvl.tups t3;obtain⟨S,c',aF,aO,aG,aE⟩:=aN.at_ hp;have er:S=r:=by rw[ep]at aF;cases aF;rfl
   have aS:c'=c:=by rw[ec]at aG;cases aG;rfl
   subst er aS;have tS:=t3.trans (zdD W3.la.fz)
   have aT:(B j).on.length+(B j).fl.length<=10000000:=by
    have:=I.few;have:(i+1)*moves.length<=level.length*moves.length:=Nat.mul_le_mul_right _ il;rw[Nat.add_mul,Nat.one_mul]at this;lia
   refine⟨f,rfl,⟨_,_,_,_,aP⟩,_,rfl,_,rfl,cl,vals,W3.fr,W3.la,W.ld _ _ _ m _ tS aJ mm (aO.tups (zdD W3.la.fz)) (λH4 s4 e4 low=>?_) λH4 b4 t s4 e4 k4 low=>?_⟩
   ·-- elsewhere
    have J:=zeM s4;generalize back cl H3 H4=H5 at J ⊢;have O:=aa.trans (But.of (l:=dl) J);have ap:=ao.tups (zbU O D);have av:H5 ds=some (DN P w ds ys):=O _ _ aD aH.symm;have aw:=J _ _ aE;have e1:B (j+1)=⟨(B j).on,(B j).fl++[oneM S m]⟩:=by rw[ag];unfold go1;rw[e4]
    refine⟨_,rfl,_,rfl,ds,ys,rfl,⟨.inl av,ap.ks⟩,.inr ⟨rfl,false,rfl,iteF ?_⟩⟩;refine⟨_,rfl,_,rfl,c',S,m,1,rfl,aw,by rw[rl];exact W.lt m mm,by rw[rl];exact W.n1,λq H6 M h6=>?_⟩;have ar:=M _ _ (J _ _ ae);refine⟨_,rfl,rfl,true,JR V.bl (JG rfl),iteT ?_⟩;refine⟨_,rfl,.inl ⟨rfl,_,SqL.of ar⟩,_,rfl,l,_,_,rfl,rfl,ar,?_,?_⟩
    ·rw[Jm,Z0 U,JM];lia
    have lq:∀ {b:Addr}{u:HO},H6 b=some u->b≠l->L2.upd H6 l (.lst (X.map V.ref++[.ref q])) b=some u:=λe ne=>by rw[zag ne];exact e
    have tq:Tups H6 (L2.upd H6 l (.lst (X.map V.ref++[.ref q]))):=λb xs e=>lq e (zcR e ar (λz=>by cases z));have az:=O.trans (But.of (l:=dl) M);refine⟨⟨_,_,_,rfl⟩,λb u e ne=>lq (az b u e ne) (zae e aC),lq (M _ _ (J _ _ af)) ay,N,X++[q],lq (M _ _ (J _ _ ad)) ol,?_,?_,?_,R⟩
    ·rw[e1];exact((Z.keep J).keep M).tups tq
    ·rw[JN];exact zab
    ·rw[e1];exact Paired.snoc ((U.tups (Tups.of J)).tups ((Tups.of M).trans tq)) (tq _ _ h6)
   ·have J:=zeM s4
    have k5:=k4.tups (zh2 (H:=H3) low);generalize back cl H3 H4=H5 at J k5 ⊢;have O:=aa.trans (But.of (l:=dl) J);have ap:=ao.tups (zbU O D);have av:H5 ds=some (DN P w ds ys):=O _ _ aD aH.symm;have aw:=J _ _ aE;refine⟨_,rfl,_,rfl,ds,ys,rfl,⟨.inl av,ap.ks⟩,.inl ⟨b4,t,rfl,k5,_,rfl,?_⟩⟩;rw[ze4 ao.pr t];by_cases sn:(getL seen t).isSome=true
    ·have e1:B (j+1)=B j:=by rw[ag];unfold go1;rw[e4];exact Jf sn
     rw[sn];refine iteT ?_;rw[e1];rw[e1]at R;exact⟨⟨_,_,_,rfl⟩,O,J _ _ af,N,X,J _ _ ad,Z.keep J,J _ _ ae,U.tups (Tups.of J),R⟩
    ·have e1:B (j+1)=⟨putL (B j).on t (minR (oneM S m) ((getL (B j).on t).getD (oneM S m))),(B j).fl⟩:=by rw[ag];unfold go1;rw[e4];exact Ja sn
     rw[show (getL seen t).isSome=false by simpa using sn];refine iteF ?_;refine⟨_,rfl,_,rfl,c',S,m,1,rfl,aw,by rw[rl];exact W.lt m mm,by rw[rl];exact W.n1,λq H6 M h6=>?_⟩;have ai:=M _ _ (J _ _ ad);have ab:=(Z.keep J).keep M;have k6:=k5.tups (Tups.of M);have az:=O.trans (But.of (l:=dl) M);refine⟨_,rfl,rfl,false,JR V.bl (Jv (λz=>by cases z)),iteF ?_⟩;refine⟨_,rfl,_,rfl,o,rfl,⟨_,.inl ai⟩,_,rfl,_,rfl,b4,N,t,rfl,⟨.inl ai,ab.ks⟩,k6,?_⟩
     have le:∃ g s,(valN N t).getD (.ref q)=.ref g/\(getL (B j).on t).getD (oneM S m)=s/\H6 g=some (.tup (s.map V.int))/\s.length=n:=by
      rcases zlA ab.pr t with ⟨a1,a2⟩|⟨g,s,a1,a2,a3⟩
      ·exact⟨q,oneM S m,by rw[a1];rfl,by rw[a2];rfl,h6,by rw[zcT];exact rl⟩
      ·exact⟨g,s,by rw[a1];rfl,by rw[a2];rfl,a3,I.on _ (zbp a2)⟩
     obtain⟨g,sr,g1,g2,g3,g4⟩:=le;rw[g1];rw[g2]at e1;have aB:(oneM S m).length=n:=by rw[zcT];exact rl
     have g6:H6 q=some (.tup ((oneM S m).map V.int)):=h6
     let rowOf:V->List Int:=λv=>if v=.ref q then oneM S m else sr
     have rq:rowOf (.ref q)=oneM S m:=Jf rfl
     have rg:H6 g=some (.tup ((rowOf (.ref g)).map V.int))/\(rowOf (.ref g)).length=n/\rowOf (.ref g)=sr:=by
      by_cases z:g=q
      ·subst z
       have es:sr=oneM S m:=by
        have:=g6.symm.trans g3;injection this with this;injection this with this;exact(zfY this).symm
       rw[rq];exact⟨g6,aB,es.symm⟩
      ·rw[show rowOf (.ref g)=sr from Ja (λy=>z (by cases y;rfl))];exact⟨g3,g4,rfl⟩
     refine⟨_,_,1,λu v=>cmpR (rowOf u) (rowOf v),rfl,by decide,?_,?_⟩
     ·have two:∀ u∈[V.ref q,V.ref g],∃ a,u=.ref a/\H6 a=some (.tup ((rowOf u).map V.int))/\(rowOf u).length=n:=λu hu=>by
       rcases Jh.mp hu with rfl|hu
       ·exact⟨q,rfl,by rw[rq];exact g6,by rw[rq];exact aB⟩
       ·rw[Jd.mp hu];exact⟨g,rfl,rg.1,rg.2.1⟩
      intro u hu v hv;obtain⟨a,rfl,a2,a3⟩:=two u hu;obtain⟨b,rfl,b2,b3⟩:=two v hv;exact zfZ a2 b2 (by rw[a3,b3])
     have pk:∃ h,zb1 (λu v=>cmpR (rowOf u) (rowOf v)) (.ref q) (.ref g)=.ref h/\H6 h=some (.tup ((minR (oneM S m) sr).map V.int)):=by
      unfold zb1 minR;have ee:cmpR (rowOf (.ref g)) (rowOf (.ref q))=cmpR sr (oneM S m):=by rw[rq,rg.2.2]
      by_cases z:cmpR sr (oneM S m)=.lt
      ·rw[Jf (ee.trans z),Jf z];exact⟨g,rfl,g3⟩
      ·rw[Ja (λy=>z (ee.symm.trans y)),Ja z];exact⟨q,rfl,g6⟩
     obtain⟨h,p1,p2⟩:=pk;rw[p1];refine⟨_,rfl,_,rfl,o,b4,N,t,rfl,rfl,ai,ab.ks,k6,?_,?_⟩
     ·rw[ab.len,JM];lia
     have tq:Tups H6 (L2.upd H6 o (DN P w o (putN N t b4 (.ref h)))):=λb xs e=>by rw[zag (zcR e ai (λz=>by cases z))];exact e
     refine⟨⟨_,_,_,rfl⟩,λb u e ne=>?_,?_,_,X,zab,?_,?_,?_,R⟩
     ·rw[zag (zae e ho)];exact az b u e ne
     ·rw[zag ax];exact M _ _ (J _ _ af)
     ·rw[e1];exact(ab.put k6 p2).tups tq
     ·rw[zag ol.symm];exact M _ _ (J _ _ ae)
     ·rw[e1];exact(U.tups (Tups.of J)).tups ((Tups.of M).trans tq)
  ·rintro σ H3 ⟨⟨v8,v9,v10,rfl⟩,aa,af,N,X,ad,Z,ae,U,I⟩
   have aA:B (moves.map λm=>V.int (m:Nat)).length=C (i+1):=by rw[ml];exact fin
   rw[aA]at Z U I;refine⟨⟨_,_,_,_,_,rfl⟩,aa,af,N,X,ad,Z,ae,U,?_⟩;rw[ml]at I;rw[Nat.add_mul,Nat.one_mul];exact I
 ·rintro σ Y ⟨⟨v6,v7,v8,v9,v10,rfl⟩,bt,ak,zs,fs,aq,ah,au,rws,aI⟩
  have e:C xs.length=zbj step seen moves level:=by show List.foldl _ _ (level.take xs.length)=_;rw[ll,Yq];rfl
  rw[e]at ah rws;refine⟨dl,ob,xs,xs,u2 _ _ D,ak,?_⟩
  have sm:Same H (L2.upd Y dl (DN P w dl xs)):=λb u e=>by
   by_cases z:b=dl
   ·rw[z]at e ⊢;rw[D]at e;rw[<- e];exact zab
   ·rw[zag z];exact bt b u e z
  have tz:Tups Y (L2.upd Y dl (DN P w dl xs)):=λb ys e=>by rw[zag (zcR e ak (λz=>by cases z))];exact e
  refine⟨_,rfl,_,rfl,by show 2<=sizeLine;decide,λq hq=>?_⟩;have M:=zac (show L2.upd Y dl (DN P w dl xs) q=none from hq) (.tup [.ref o,.ref l]);refine k q o l zs fs _ (sm.trans M) ho zab (M _ _ ?_) ((ah.tups tz).keep M) (M _ _ ?_) ((rws.tups tz).tups (Tups.of M))
  ·rw[zag ax.symm];exact aq
  ·rw[zag ay.symm];exact au
end
end K64
namespace L2
open PySem PySem.Spec PyProof.Rows Own Bn
def zhJ:V->Int
 | .int i=>i
 | _=>0
def rowH (H:Hp):V->List Int
 | .ref a=>match H a with
  | some (.tup xs)=>xs.map zhJ
  | _=>[]
 | _=>[]
theorem zc7 {H:Hp}{a:Addr}{r:List Int}(h:H a=some (.tup (r.map V.int))):rowH H (.ref a)=r:=by
 show (match H a with
  | some (.tup xs)=>xs.map zhJ
  | _=>[])=r
 rw[h];show (r.map V.int).map zhJ=r;rw[Zv];exact List.map_id r
def cmpH (H:Hp):V->V->Ordering:=λu v=>cmpR (rowH H u) (rowH H v)
theorem zll {H:Hp}:∀ {fs:List Addr}{rs:List (List Int)}{a:Addr}{r:List Int},RowsAt H fs rs->H a=some (.tup (r.map V.int))->∃ h,(fs.map V.ref).foldl (zb1 (cmpH H)) (.ref a)=.ref h/\H h=some (.tup ((rs.foldl minR r).map V.int)):=by
 intro fs rs a r h
 induction h generalizing a r with
 | nil=>intro ha;exact⟨a,rfl,ha⟩
 | @cons b q fs rs hb _ ih =>
  intro ha;show ∃ h,(fs.map V.ref).foldl (zb1 (cmpH H)) (zb1 (cmpH H) (.ref a) (.ref b))=.ref h/\H h=some (.tup ((rs.foldl minR (minR r q)).map V.int));have e:cmpH H (.ref b) (.ref a)=cmpR q r:=by unfold cmpH;rw[zc7 ha,zc7 hb]
  unfold zb1 minR;by_cases z:cmpR q r=.lt
  ·rw[Jf (e.trans z),Jf z];exact ih hb
  ·rw[Ja (λy=>z (e.symm.trans y)),Ja z];exact ih ha
theorem zlm {H:Hp}{fs:List Addr}{rs:List (List Int)}(h:RowsAt H fs rs) (ne:rs≠[]):∃ g,zbS (cmpH H) (fs.map V.ref)=.ref g/\H g=some (.tup ((minL rs).map V.int)):=by
 cases h with
 | nil=>exact absurd rfl ne
 | cons a t=>exact zll t a
theorem zmd {H:Hp}{n:Nat}{fs:List Addr}{rs:List (List Int)}(h:RowsAt H fs rs) (d:∀ r∈rs,r.length=n):∀ x∈fs.map V.ref,∀ y∈fs.map V.ref,Lx H 1 x y (cmpH H x y):=by
 have at_:∀ {fs:List Addr}{rs:List (List Int)},RowsAt H fs rs->∀ a∈fs,∃ r∈rs,H a=some (.tup (r.map V.int)):=by
  intro fs rs h
  induction h with
  | nil=>intro a ha;cases ha
  | cons p _ ih =>
   intro a ha;rcases Jh.mp ha with rfl|z
   ·exact⟨_,.head _,p⟩
   ·obtain⟨r,c,e⟩:=ih a z
    exact⟨r,.tail _ c,e⟩
 intro x i y g;obtain⟨a,ha,rfl⟩:=JH.mp i;obtain⟨b,bm,rfl⟩:=JH.mp g;obtain⟨r,c,f⟩:=at_ h a ha;obtain⟨q,j,e2⟩:=at_ h b bm;unfold cmpH;rw[zc7 f,zc7 e2];exact zfZ f e2 (by rw[d r c,d q j])
structure NewOk (seen:LvL) (Ok:KN->Prop) (a:LAcc):Prop where
 nd:LvNd a.on
 new:∀ p∈a.on,getL seen p.1=none
 ok:∀ p∈a.on,Ok p.1
section
variable {step:KN->Nat->Option KN}{seen:LvL}{Ok:KN->Prop}{moves:List Nat}
theorem NewOk.go {s:KN}{c:List Int}{a:LAcc}{k:Nat}(h:NewOk seen Ok a) (f:∀ t,step s k=some t->Ok t):NewOk seen Ok (go1 step seen s c a k):=by
 unfold go1;split
 ·exact⟨h.nd,h.new,h.ok⟩
 ·rename_i t d
  split
  ·exact h
  ·rename_i z
   refine⟨h.nd.put _ _,λp b=>?_,λp b=>?_⟩
   ·rcases zej b with y|y
    ·exact h.new p y
    ·rw[y]
     cases e:getL seen t with
     | none=>rfl
     | some r=>rw[e]at z;exact absurd rfl z
   ·rcases zej b with y|y
    ·exact h.ok p y
    ·rw[y];exact f t d
theorem NewOk.row {s:KN}{c:List Int}:∀ (ms:List Nat) {a:LAcc},NewOk seen Ok a->(∀ m∈ms,∀ t,step s m=some t->Ok t)->NewOk seen Ok (ms.foldl (go1 step seen s c) a)
 | [],a,h,_=>h
 | k::r,a,h,q=>NewOk.row r (h.go (q k (.head _))) λm hm=>q m (.tail _ hm)
theorem NewOk.lev:∀ (level:LvL) {a:LAcc},NewOk seen Ok a->(∀ p∈level,∀ m∈moves,∀ t,step p.1 m=some t->Ok t)->NewOk seen Ok (level.foldl (goS step seen moves) a)
 | [],a,h,_=>h
 | p::r,a,h,q=>NewOk.lev r (NewOk.row moves h (q p (.head _))) λm hm=>q m (.tail _ hm)
theorem zeo (level:LvL) (q:∀ p∈level,∀ m∈moves,∀ t,step p.1 m=some t->Ok t):NewOk seen Ok (zbj step seen moves level) :=
 NewOk.lev level ⟨Zs,λp a=>(nomatch a),λp a=>(nomatch a)⟩ q
theorem zgN {n:Nat}(level:LvL) (h:∀ p∈level,p.2.length=n):AccOk n (level.length*moves.length) (zbj step seen moves level):=by
 have:=AccOk.lev (step:=step) (seen:=seen) (moves:=moves) level (a:=⟨[],[]⟩) (m:=0) h ⟨λp b=>(nomatch b),λp b=>(nomatch b),Jg _⟩
 rwa [Yw]at this
end
section
variable {step:KN->Nat->Option KN}{moves:List Nat}{most m:Nat}{level seen:LvL}{ls:List LvL}
theorem zdv:za5 step moves most (m+1) [] seen ls=.whl ls:=Jf rfl
theorem zdw (ne:level≠[]) (h:most<seen.length+level.length):za5 step moves most (m+1) level seen ls=.opn:=by
 unfold za5;rw[Ja ne,Jf h]
theorem zdx (ne:level≠[]) (h:¬ most<seen.length+level.length) (f:(zbj step (seen++level) moves level).fl≠[]):za5 step moves most (m+1) level seen ls=.brk (minL (zbj step (seen++level) moves level).fl):=by
 unfold za5;rw[Ja ne,Ja h,Jf f]
theorem zeA (ne:level≠[]) (h:¬ most<seen.length+level.length) (f:(zbj step (seen++level) moves level).fl=[]):za5 step moves most (m+1) level seen ls=za5 step moves most m (zbj step (seen++level) moves level).on (seen++level) (ls++[level]):=by
 rw[za5,Ja ne,Ja h,Ja (not_not_intro f)]
end
def LvsAt (P:Program) (w:World) (H:Hp) (as:List Addr) (ls:List LvL):Prop:=Paired (λa lv=>∃ xs,H a=some (DN P w a xs)/\LvE H xs lv) as ls
theorem LvsAt.but {P:Program}{w:World}{H H':Hp}{as:List Addr}{ls:List LvL}(h:LvsAt P w H as ls) (t:Tups H H') (k:∀ a∈as,∀ o,H a=some o->H' a=some o):LvsAt P w H' as ls:=by
 induction h with
 | nil=>exact .nil
 | @cons a lv as ls q _ ih =>
  obtain⟨xs,e,le⟩:=q;exact .cons ⟨xs,k a (.head _) _ e,le.tups t⟩ (ih λb hb=>k b (.tail _ hb))
theorem LvsAt.keep {P:Program}{w:World}{H H':Hp}{as:List Addr}{ls:List LvL}(h:LvsAt P w H as ls) (s:Same H H'):LvsAt P w H' as ls:=h.but (Tups.of s) λa _ o e=>s a o e
def TellR (P:Program) (w:World) (H:Hp) (p:Addr):LRes->Prop
 | .opn=>H p=some (.tup [.str "open",.non])
 | .brk c=>∃ b,H p=some (.tup [.str "breaks",.ref b])/\H b=some (.tup (c.map V.int))
 | .whl ls=>∃ l as,H p=some (.tup [.str "whole",.ref l])/\H l=some (.lst (as.map V.ref))/\LvsAt P w H as ls
def zfF (P:Program) (w:World) (K:PySem.W.Frag) (L:Lam) (fr:List Str) (lsp:LSpc):Sp:=λvs H Q _=>∃ a c0 mv f k0 c moves cl vals step Ok n,∃ most:Nat,vs=[.ref a,.ref c0,.ref mv,.ref f,.int (most:Nat)]/\NKey H k0 a/\H c0=some (.tup (List.map V.int c))/\c.length=n/\Ok k0/\Way K H mv f L fr lsp cl vals step Ok moves n/\most<=500000/\moves.length<=16/\0<most /\
 ∀ p H',Same H H'->TellR P w H' p (za5 step moves most (most+1) [(k0,c)] [] [])->Q (.ref p) H'
end L2
namespace K64
open PySem L2 Own Bn
abbrev sClm:Stmt:=top 15
theorem ziU {H H':Hp}{x:Addr}(s:Same H H') (h:H' x=none):H x=none:=by
 cases e:H x with
 | none=>rfl
 | some o=>rw[s _ _ e]at h;cases h
theorem znN {P:Program}{w:World}{H:Hp}{as:List Addr}{ls:List LvL}{a:Addr}{ys:List V}(h:LvsAt P w H as ls) (e:H a=some (.lst ys)):a∉as:=by
 induction h with
 | nil=>exact Je
 | cons q _ ih =>
  intro z;rcases Jh.mp z with rfl|y
  ·obtain⟨xs,e2,_⟩:=q
   rw[e]at e2;cases e2
  ·exact ih y
section
variable {P:Program}{w:World}{K:PySem.W.Frag}{mg:Str->Option Value}{base:Heap}
theorem scCl:FnScope ["first","counts","moves","led","most","level","levels","seen","faults"] ["first","counts","moves","led","most"] (zaj sClm):=by trivial
theorem zhr {f fN:Addr}{fd dN:FuncData}{L:Lam}{fr:List Str}{lsp:LSpc}(F:Fun K "climbed" "climbed" sClm f fd) (G:Mgs mg) (UN:Use P w K mg base "next_level" ["level","seen","moves","led"] 6 (zid P w K L fr lsp) fN dN):FnOk P w K mg base CX0 7 f fd ["first","counts","moves","led","most"] (zfF P w K L fr lsp):=by
 refine F.ok scCl (λvs H Q E h=>?_) (λcdv A outer s H vs Q E hr h=>?_)
 ·obtain⟨N,c0,mv,f,k0,c,moves,cl,vals,step,Ok,n,most,rfl,_⟩:=h
  rfl
 obtain⟨N,c0,mv,f,k0,c,moves,cl,vals,step,Ok,n,most,rfl,ap,aG,cn,ay,W,mb,az,mp,k⟩:=h;refine⟨_,(@zaf _ _ _ _ _ (@zaq _ _ 5 _ _ _ _ scCl.nd rfl (.inl rfl) (zkv hr.u3 (@qv _ 0 _ _ (by trivial)) (@qv _ 1 _ _ (by trivial))) (by rfl) (by trivial)) (@zaf _ _ _ _ _ (@zaq _ _ 6 _ _ _ _ scCl.nd rfl (.inl rfl) (@zba _ _ _ _ zad) (by rfl) (by trivial)) (@zaf _ _ _ _ _ (@zaq _ _ 7 _ _ _ _ scCl.nd rfl (.inl rfl) ziE (by rfl) (by trivial)) (@zaf _ _ _ _ _ (@zgC _ _ _ _ _ _ Yx (pt_n (@qv _ 5 _ _ (by trivial)) (λ_=>rfl)) (@zaf _ _ _ _ _ (@zbg _ _ _ _ (zmm hr.u3 (@qv _ 7 _ _ (by trivial)) (@qv _ 5 _ _ (by trivial)) ⟨rfl,rfl,rfl,rfl⟩) (by rfl)) (@zaf _ _ _ _ _ (@zbw _ _ _ _ _ _ _ _ (@zaE _ _ _ _ _ _ _ _ zms (@zau _ _ _ _ _ _ _ _ _ zjU (by rfl) G.len YT (@zaa _ _ _ _ _ (@qv _ 7 _ _ (by trivial)) zad (by rfl)) (by decide) (by decide) (by rfl) (by rfl)) (@qv _ 4 _ _ (by trivial)) (zaR _)) (@zai _ _ _ (@zap _ _ _ _ (@zaB _ _ _ _ _ (@zaa _ _ _ _ _ zbN (@zaa _ _ _ _ _ ziD zad (by rfl)) (by rfl))))) zaI) (@zaf _ _ _ _ _ (@zbg _ _ _ _ (@zdc _ _ _ _ _ _ _ _ _ _ _ _ Yp YJ YK zaW (@qv _ 6 _ _ (by trivial)) (@zaa _ _ _ _ _ (@qv _ 5 _ _ (by trivial)) zad (by rfl)) (by rfl) (by rfl) (by rfl) (by rfl) (by rfl)) (by rfl)) (@zaf _ _ _ _ _ (@zaT _ _ _ _ _ _ (@zal _ _ _ _ _ _ _ _ _ _ _ _ _ _ _ _ UN.ok hr (by rfl) UN.m UN.kp UN.b .nil zaw (@zaa _ _ _ _ _ (@qv _ 5 _ _ (by trivial)) (@zaa _ _ _ _ _ (@qv _ 7 _ _ (by trivial)) (@zaa _ _ _ _ _ (@qv _ 2 _ _ (by trivial)) (@zaa _ _ _ _ _ (@qv _ 3 _ _ (by trivial)) zad (by rfl)) (by rfl)) (by rfl)) (by rfl)) (by decide) (by rfl) (by rfl)) (@zaV _ _ _ _ _ _ rfl (@zam _ _ _ _ _ (@zak _ _ 5 _ scCl.nd rfl (.inl rfl) (by trivial)) (@zam _ _ _ _ _ (@zak _ _ 8 _ scCl.nd rfl (.inl rfl) (by trivial)) zaF (by rfl)) (by rfl)) (by rfl) (by rfl)) (by rfl) (by rfl) (by rfl)) (@zai _ _ _ (@zbw _ _ _ _ _ _ _ _ (@zkn _ _ _ (@qv _ 8 _ _ (by trivial)) (λ_=>rfl)) (@zai _ _ _ (@zap _ _ _ _ (@zaB _ _ _ _ _ (@zaa _ _ _ _ _ zbN (@zaa _ _ _ _ _ (@zau _ _ _ _ _ _ _ _ _ (zjV rfl true hr.units) (by rfl) G.min (by rfl) (@zaa _ _ _ _ _ (@qv _ 8 _ _ (by trivial)) zad (by rfl)) (by decide) (by decide) (by rfl) (by rfl)) zad (by rfl)) (by rfl))))) zaI))))))) (@zai _ _ _ (@zap _ _ _ _ (@zaB _ _ _ _ _ (@zaa _ _ _ _ _ zbN (@zaa _ _ _ _ _ (@qv _ 6 _ _ (by trivial)) zad (by rfl)) (by rfl))))))))),?_⟩;refine λdl af=>⟨_,rfl,_,rfl,N,k0,rfl,zab,ap.tups (Tups.of (zac af _)),?_⟩;refine⟨by show 0<=sizeLine;decide,λd I=>λds r=>?_⟩
 have sA:Same H (L2.upd (L2.upd H dl (DN P w dl [])) dl (DN P w dl [(k0,N,.ref c0)])):=λb u e=>by
  rw[zag (zae e af),zag (zae e af)];exact e
 have ag:L2.upd (L2.upd H dl (DN P w dl [])) dl (DN P w dl [(k0,N,.ref c0)]) dl=some (DN P w dl [(k0,N,.ref c0)]):=zab;replace I:L2.upd (L2.upd H dl (DN P w dl [])) dl (DN P w dl [(k0,N,.ref c0)]) d=none:=I;replace r:L2.upd (L2.upd (L2.upd H dl (DN P w dl [])) dl (DN P w dl [(k0,N,.ref c0)])) d (.lst []) ds=none:=r;show tSeq _ _ _ _ (L2.upd (L2.upd (L2.upd (L2.upd H dl (DN P w dl [])) dl (DN P w dl [(k0,N,.ref c0)])) d (.lst [])) ds (DN P w ds []));generalize L2.upd (L2.upd H dl (DN P w dl [])) dl (DN P w dl [(k0,N,.ref c0)])=HA at *;have sB:=zac I (.lst []);have sC:=zac r (DN P w ds []);have ad:L2.upd HA d (.lst []) d=some (.lst []):=zab;have ar:=sC _ _ ad;have au:=sC _ _ (sB _ _ ag);have aq:L2.upd (L2.upd HA d (.lst [])) ds (DN P w ds []) ds=some (DN P w ds []):=zab;have aD:d≠ds:=zae ad r;have aw:dl≠ds:=zae (sB _ _ ag) r;have aC:H d=none:=ziU sA I;have aH:H ds=none:=ziU (sA.trans sB) r;have sX:Same H (L2.upd (L2.upd HA d (.lst [])) ds (DN P w ds [])):=(sA.trans sB).trans sC;generalize L2.upd (L2.upd HA d (.lst [])) ds (DN P w ds [])=HX at *;clear sA sB sC ad I r ag
 refine⟨λm σ i=>∃ dl xs ys level seen as ls v8,σ=[some (.ref N),some (.ref c0),some (.ref mv),some (.ref f),some (.int (most:Nat)),some (.ref dl),some (.ref d),some (.ref ds),v8]/\Same H i/\i dl=some (DN P w dl xs)/\LvE i xs level/\i ds=some (DN P w ds ys)/\LvE i ys seen/\dl≠ds/\i d=some (.lst (as.map V.ref))/\LvsAt P w i as ls/\ds∉as /\
  as.length<=seen.length/\LvNd level/\(∀ p∈level,getL seen p.1=none)/\(∀ p∈level,Ok p.1/\p.2.length=n)/\seen.length<=most/\(seen≠[]\/level.length=1)/\level.length<=16*most+1/\most+1<=m+seen.length/\za5 step moves most (most+1) [(k0,c)] [] []=za5 step moves most m level seen ls,⟨most+1,?_⟩,?_⟩
 ·exact⟨dl,_,[],[(k0,c)],[],[],[],_,rfl,sX,au,⟨λx hx=>by rw[Jd.mp hx];exact ap.tups (Tups.of sX),.cons ⟨rfl,c0,rfl,sX _ _ aG⟩ .nil⟩,aq,LvE.nil,aw,ar,.nil,Je,Jg _,JJ.mpr ⟨Je,Zs⟩,λp j=>rfl,λp j=>by rw[Jd.mp j];exact⟨ay,cn⟩,JS _,.inr rfl,by show 1<=_;lia,Jg _,rfl⟩
 clear ar au aq sX aD aw;rintro m σ i ⟨dl,xs,ys,level,seen,as,ls,v8,rfl,s2,T,v,D,C,U,S,M,ax,aK,nd,new,Z,sm,one,aJ,em,ec⟩
 have e0:(!xs.isEmpty) = !level.isEmpty:=by
  have:=v.len;cases xs<;>cases level<;>first|rfl|cases this
 refine⟨_,rfl,dl,xs,rfl,.inl T,?_⟩;rw[e0];obtain⟨m,rfl⟩:∃ m',m=m'+1:=⟨m-1,by lia⟩;by_cases le:level=[]
 ·rw[le]
  refine iteF ?_;refine⟨_,rfl,by show 2<=sizeLine;decide,λp j=>?_⟩;have X:=zac j (.tup [.str "whole",.ref d]);refine k p _ (s2.trans X) ?_;rw[ec,le,zdv];exact⟨d,as,zab,X _ _ S,M.keep X⟩
 rw[show (!level.isEmpty)=true by cases level;exact absurd rfl le;rfl];refine iteT ⟨_,λaI H' hN=>⟨m,Nat.lt_succ_self _,hN⟩,?_⟩;have l2:=v.len;have l3:=C.len;refine⟨_,rfl,ds,rfl,⟨_,.inl D⟩,_,rfl,dl,ys,xs,rfl,U.symm,D,C.ks,⟨.inl T,v.ks⟩,by rw[JM];lia,?_,?_⟩
 ·rcases one with z|z
  ·exact .inl λy=>z (by rw[y]at l3;exact ZU.mp l3.symm)
  ·exact .inr (by rw[l2];exact z)
 rw[C.merge v nd new];have ao:d≠ds:=zcR S D λz=>by cases z
 have ab:L2.upd i ds (DN P w ds (ys++xs)) ds=some (DN P w ds (ys++xs)):=zab;have t3:Tups i (L2.upd i ds (DN P w ds (ys++xs))):=λb zs e=>by rw[zag (zcR e D λz=>by cases z)];exact e
 have ah:L2.upd i ds (DN P w ds (ys++xs)) dl=some (DN P w dl xs):=by rw[zag U];exact T
 have B:L2.upd i ds (DN P w ds (ys++xs)) d=some (.lst (as.map V.ref)):=by rw[zag ao];exact S
 have X:Same H (L2.upd i ds (DN P w ds (ys++xs))):=λb u e=>by rw[zag (zae e aH)];exact s2 b u e
 have J:LvsAt P w (L2.upd i ds (DN P w ds (ys++xs))) as ls:=M.but t3 λa ha o e=>by rw[zag (λ(z:a=ds)=>ax (z ▸ ha))];exact e
 have R:=v.tups t3;have ak:=(C.tups t3).app R;show tSeq _ _ _ _ (L2.upd i ds (DN P w ds (ys++xs)));generalize L2.upd i ds (DN P w ds (ys++xs))=O at *;clear D S T M v C t3 s2;have yl:(ys++xs).length=seen.length+level.length:=by rw[Jn];lia
 refine⟨_,rfl,ds,_,rfl,.inl ab,_,rfl,_,_,rfl,rfl,_,rfl,ite2 (λz=>?_) (λz=>?_)⟩
 ·have z1:most<seen.length+level.length:=by
   have:=ZY z;rw[yl]at this;lia
  refine⟨by show 2<=sizeLine;decide,λp j=>?_⟩;have s4:=zac j (.tup [.str "open",.non]);refine k p _ (X.trans s4) ?_;rw[ec,zdw le z1];exact zab
 have z1:¬ most<seen.length+level.length:=λy=>z (JG (by rw[yl];lia));have lp:0<level.length:=Wn.mpr le;refine⟨_,rfl,.inl ⟨rfl,_,SqL.of B⟩,_,rfl,d,_,_,rfl,rfl,B,by rw[Jm,JM];lia,?_⟩;have aF:L2.upd O d (.lst (as.map V.ref++[.ref dl])) d=some (.lst ((as++[dl]).map V.ref)):=by rw[JN];exact zab
 have q4:∀ {b:Addr}{u:HO},O b=some u->b≠d->L2.upd O d (.lst (as.map V.ref++[.ref dl])) b=some u:=λe ne=>by rw[zag ne];exact e
 have t4:Tups O (L2.upd O d (.lst (as.map V.ref++[.ref dl]))):=λb zs e=>q4 e (zcR e B λz=>by cases z);have av:=q4 ah (zcR ah B λz=>by cases z);have aa:=q4 ab ao.symm;have s4:Same H (L2.upd O d (.lst (as.map V.ref++[.ref dl]))):=λb u e=>q4 (X b u e) (zae e aC)
 have ai:LvsAt P w (L2.upd O d (.lst (as.map V.ref++[.ref dl]))) (as++[dl]) (ls++[level]):=Paired.snoc (J.but t4 λa ha o e=>by
  by_cases y:a=d
  ·exact absurd (y ▸ ha) (znN J B)
  ·exact q4 e y) ⟨xs,av,R.tups t4⟩
 have aA:=R.tups t4;have aj:=ak.tups t4;show tSeq _ _ _ _ (L2.upd O d (.lst (as.map V.ref++[.ref dl])));generalize L2.upd O d (.lst (as.map V.ref++[.ref dl]))=H4 at *;clear ab B ah J R ak t4 X q4;have W4:=W.keep (Tups.of s4) λb o u e=>s4 b _ e;have nw:=zeo (step:=step) (seen:=seen++level) (moves:=moves) (Ok:=Ok) level λp j m hm t e=>W.ok _ _ _ (Z p j).1 hm e;have na:=zgN (step:=step) (seen:=seen++level) (moves:=moves) (n:=n) level λp j=>(Z p j).2;have few:level.length*moves.length<=level.length*16:=Nat.mul_le_mul_left _ az;refine⟨_,rfl,_,rfl,_,rfl,_,rfl,dl,ds,mv,f,xs,ys++xs,level,seen++level,moves,cl,vals,step,Ok,n,rfl,av,aA,aa,aj,U,W4,Z,by lia,λp o l zs fs H5 s5 ho j aE aB ae Y=>?_⟩;refine⟨p,_,rfl,SqT.of j,rfl,_,_,rfl,_,_,rfl,rfl,?_⟩;have fl:=Z0 Y;by_cases fe:(zbj step (seen++level) moves level).fl=[]
 ·have f0:fs=[]:=by rw[fe]at fl;exact ZU.mp fl
  refine⟨_,rfl,false,.inl ⟨_,SqL.of ae,by rw[f0];rfl⟩,iteF ?_⟩;refine⟨o,zs,ys++xs,_,seen++level,as++[dl],ls++[level],_,rfl,s4.trans s5,aE,aB,s5 _ _ aa,aj.keep s5,λz=>?_,s5 _ _ aF,ai.keep s5,?_,?_,nw.nd,nw.new,λp j=>⟨nw.ok p j,na.on p j⟩,by rw[Jn];lia,.inl ?_,?_,by rw[Jn];lia,?_⟩
  ·rw[z,aa]at ho;cases ho
  ·intro z
   rcases Jx.mp z with y|y
   ·exact ax y
   ·exact U (Jd.mp y).symm
  ·rw[Jn,Jn];show as.length+1<=_;lia
  ·intro y
   have:=JR List.length y;rw[Jn,Wg]at this;lia
  ·have:=na.few;lia
  ·rw[ec,zeA le z1 fe]
 ·have fp:0<(fs.map V.ref).length:=by
   rw[Jm,fl];exact Wn.mpr fe
  refine⟨_,rfl,true,.inl ⟨_,SqL.of ae,?_⟩,iteT ?_⟩
  ·cases fs with
   | nil=>exact absurd fp (by simp)
   | cons a b=>rfl
  obtain⟨g,g1,g2⟩:=zlm Y fe;refine⟨_,rfl,l,_,1,cmpH H5,rfl,SqL.of ae,fp,by decide,zmd Y na.fl,?_⟩;rw[g1];refine⟨by show 2<=sizeLine;decide,λq hq=>?_⟩;have s6:=zac hq (.tup [.str "breaks",.ref g]);refine k q _ ((s4.trans s5).trans s6) ?_;rw[ec,zdx le z1 fe];exact⟨g,zab,s6 _ _ g2⟩
end
end K64
namespace L2
open PySem PySem.Spec PyProof.Rows
abbrev e2 (elt tg iter tg1 iter1:Expr) (ifs:List Expr) (scope:Scope) (pos:Pos):Expr:=.ListComp elt [⟨tg,iter,[],0⟩,⟨tg1,iter1,ifs,0⟩] scope pos
theorem zhZ (elt tg iter tg1 iter1:Expr) (ifs:List Expr) (scope:Scope) (pos:Pos) (it acc:Value) (env:Env) :
  compTurn (e2 elt tg iter tg1 iter1 ifs scope pos) 0 it acc env=(standAt iter.pos >>= λ_=>pyNext it >>= λr=>match r with
   | none=>pure (.done .next)
   | some v=>letOwnedTupleGo tg it v >>= λ_=>assign tg env v >>= λ_ =>
    (eval iter1 env >>= λx=>standAt iter1.pos >>= λ_=>foldedSetIterable iter1 env x >>= λx=>holding [x] (pyIter x) >>= λi1=>runOwn (.compStart (e2 elt tg iter tg1 iter1 ifs scope pos) 1 i1 acc env) env >>= λ_ =>
     again (.compLoop (e2 elt tg iter tg1 iter1 ifs scope pos) 0 it acc env))):=by rfl
theorem zhY (elt tg iter tg1 iter1:Expr) (scope:Scope) (pos:Pos) (it acc:Value) (env:Env) :
  compTurn (e2 elt tg iter tg1 iter1 [] scope pos) 1 it acc env=(standAt iter1.pos >>= λ_=>pyNext it >>= λr=>match r with
   | none=>pure (.done .next)
   | some v=>letOwnedTupleGo tg1 it v >>= λ_=>assign tg1 env v >>= λ_ =>
    ((eval elt env >>= λx=>call (.builtin "list.append") [acc,x] >>= λ_=>pure ()) >>= λ_ =>
     again (.compLoop (e2 elt tg iter tg1 iter1 [] scope pos) 1 it acc env))):=by rfl
theorem zg8 (elt tg iter tg1 iter1 c:Expr) (scope:Scope) (pos:Pos) (it acc:Value) (env:Env) :
  compTurn (e2 elt tg iter tg1 iter1 [c] scope pos) 1 it acc env=(standAt iter1.pos >>= λ_=>pyNext it >>= λr=>match r with
   | none=>pure (.done .next)
   | some v=>letOwnedTupleGo tg1 it v >>= λ_=>assign tg1 env v >>= λ_=>(forIn [c] true λc r=>if r=true then (isTrue c env (eval c env) >>= λok=>pure (ForInStep.yield ok)) else pure (ForInStep.yield r)) >>= λok =>
    if ok=true then
    ((eval elt env >>= λx=>call (.builtin "list.append") [acc,x] >>= λ_=>pure ()) >>= λ_ =>
     again (.compLoop (e2 elt tg iter tg1 iter1 [c] scope pos) 1 it acc env)) else again (.compLoop (e2 elt tg iter tg1 iter1 [c] scope pos) 1 it acc env)):=by rfl
section
variable {prog:Program}{w:World}{A:Around}{R:Result->Shared->Prop}{s:Shared}{elt tg iter tg1 iter1:Expr}{scope:Scope}{pos:Pos}{it acc:Value}{env:Env}
theorem zge {ifs:List Expr}
  (b:codeAny (model prog w) A (.compLoop (e2 elt tg iter tg1 iter1 ifs scope pos) 1 it acc env) R s)
  (h:wpAny (model prog w) A (pyIter it) (λi2 z=>codeAny (model prog w) A (.compLoop (e2 elt tg iter tg1 iter1 ifs scope pos) 1 i2 acc env) R z) NoX s) :
  codeAny (model prog w) A (.compStart (e2 elt tg iter tg1 iter1 ifs scope pos) 1 it acc env) R s:=by
 refine codeAny_of_tree ?_;show wpAny _ A ((compStart (e2 elt tg iter tg1 iter1 ifs scope pos) 1 it acc env).onRaise (λx=>do noteFrame x env;standAt theWindowsPlace)) _ _ s;refine wpAny_notedAt ?_;unfold compStart;refine(show wpAny _ _ (ask >>= _) _ _ s from J0 (wpAny_askSetting (wpAny_ite ?_)));split
 ·first
   | exact J0 (J7 (J7 ⟨rfl,b⟩))
   | exact J7 ⟨rfl,b⟩
 ·apply J0;refine YR ?_
  first
   | exact J0 (W9 (J0 (JU h (λa s' h'=>J7 ⟨rfl,h'⟩) λ_ _ z=>z.elim)))
   | (show wpAny _ _ (standAt iter1.pos >>= _) _ _ s;exact J0 (W9 (J0 (JU h (λa s' h'=>J7 ⟨rfl,h'⟩) λ_ _ z=>z.elim))))
theorem zhV {o:Option Expr}(J:Nat->Shared->Prop)
  (turn:∀ n s,J n s->Go (model prog w) A tg1 elt o it acc env R (λz=>∃ m,m<n/\J m z) s) (n:Nat) (h:J n s) :
  codeAny (model prog w) A (.compLoop (.ListComp elt [⟨tg,iter,[],0⟩,⟨tg1,iter1,o.toList,0⟩] scope pos) 1 it acc env) R s:=by
 cases o with
 | none =>
  refine codeAny_loop rfl J (λn s j=>?_) n h;show wpAny _ A ((compTurn (e2 elt tg iter tg1 iter1 [] scope pos) 1 it acc env).onRaise (λx=>do noteFrame x env;theTreesLotGoes x)) _ _ s;refine wpAny_noted ?_;rw[zhY];refine J0 (W9 (J0 (JU (turn n s j) (λr a h1=>?_) λ_ _ z=>z.elim)))
  cases r with
  | none=>exact J7 h1
  | some v =>
   refine J0 (JU h1 (λ_ b p=>?_) λ_ _ z=>z.elim);refine J0 (JU p (λ_ c l=>?_) λ_ _ z=>z.elim);have g:wpAny (model prog w) A (eval elt env) (λx e=>wpAny (model prog w) A (call (.builtin "list.append") [acc,x]) (λ_ f=>∃ m,m<n/\J m f) NoX e) NoX c:=l
   exact J0 (J0 (JU g (λx d i=>J0 (JU i (λ_ e k=>J7 (J7 ⟨rfl,k⟩)) λ_ _ z=>z.elim)) λ_ _ z=>z.elim))
 | some t =>
  refine codeAny_loop rfl J (λn s j=>?_) n h;show wpAny _ A ((compTurn (e2 elt tg iter tg1 iter1 [t] scope pos) 1 it acc env).onRaise (λx=>do noteFrame x env;theTreesLotGoes x)) _ _ s;refine wpAny_noted ?_;rw[zg8];refine J0 (W9 (J0 (JU (turn n s j) (λr a h1=>?_) λ_ _ z=>z.elim)))
  cases r with
  | none=>exact J7 h1
  | some v =>
   refine J0 (JU h1 (λ_ b p=>?_) λ_ _ z=>z.elim);refine J0 (JU p (λ_ c l=>?_) λ_ _ z=>z.elim);have g:wpAny (model prog w) A (isTrue t env (eval t env)) (λyes d=>if yes=true then wpAny (model prog w) A (eval elt env) (λx e=>wpAny (model prog w) A (call (.builtin "list.append") [acc,x]) (λ_ f=>∃ m,m<n/\J m f) NoX e) NoX d else ∃ m,m<n/\J m d) NoX c:=l;refine J0 (wpAny_tests_one (JU g (λyes d i=>?_) λ_ _ z=>z.elim))
   cases yes with
   | false=>exact J7 ⟨rfl,i⟩
   | true=>exact J0 (J0 (JU i (λx e k=>J0 (JU k (λ_ f q=>J7 (J7 ⟨rfl,q⟩)) λ_ _ z=>z.elim)) λ_ _ z=>z.elim))
theorem zhW {ifs:List Expr}(J:Nat->Shared->Prop)
  (turn:∀ n s,J n s->wpAny (model prog w) A (pyNext it) (λr a=>match r with
   | none=>R (.ok .next) a
   | some v=>wpAny (model prog w) A (letOwnedTupleGo tg it v) (λ_ b=>wpAny (model prog w) A (assign tg env v) (λ_ c=>wpAny (model prog w) A (eval iter1 env) (λx d=>wpAny (model prog w) A (pyIter x) (λi1 e =>
     codeAny (model prog w) A (.compStart (e2 elt tg iter tg1 iter1 ifs scope pos) 1 i1 acc env) (λr f=>match r with|.ok _=>∃ m,m<n/\J m f|.error _=>False) e) NoX d) NoX c) NoX b) NoX a) NoX s) (n:Nat) (h:J n s)
  (i:∀ x,foldedSetIterable iter1 env x=pure x) :
  codeAny (model prog w) A (.compLoop (e2 elt tg iter tg1 iter1 ifs scope pos) 0 it acc env) R s:=by
 refine codeAny_loop rfl J (λn s j=>?_) n h;show wpAny _ A ((compTurn (e2 elt tg iter tg1 iter1 ifs scope pos) 0 it acc env).onRaise (λx=>do noteFrame x env;theTreesLotGoes x)) _ _ s;refine wpAny_noted ?_;rw[zhZ];refine J0 (W9 (J0 (JU (turn n s j) (λr a h1=>?_) λ_ _ z=>z.elim)))
 cases r with
 | none=>exact J7 h1
 | some v =>
  refine J0 (JU h1 (λ_ b p=>?_) λ_ _ z=>z.elim);refine J0 (JU p (λ_ c o=>?_) λ_ _ z=>z.elim);refine J0 (JU o (λx d l=>?_) λ_ _ z=>z.elim);refine J0 (W9 (J0 (wpAny_of_eq (i x) (J0 (Y1 (JU l (λi1 e k=>?_) λ_ _ z=>z.elim))))));refine J0 (wpAny_runOwn (codeAny_mono k (λr f g=>?_)))
  cases r with
  | ok fl=>exact J7 ⟨rfl,g⟩
  | error x=>exact g.elim
end
def LCW1 (J:It) (g:TG) (tt:TT) (te:TE) (l:Addr) (Q:List V->St->Hp->Prop) (W:Nat->Nat->List V->St->Hp->Prop):Prop :=
 ∀ i m acc c H',W i m acc c H'->H' l=some (.lst acc) /\
  ((J.stop i H'/\Q acc c H')\/(J.go i H'/\∀ x h,J.yld i H' x h->g x c h λa j=>tt a j λb f =>
   if b=true then te a f λy e=>e l=some (.lst acc)/\acc.length<sizeLine/\∃ d,d<m/\W (i+1) d (acc++[y]) a (upd e l (.lst (acc++[y])))
   else ∃ d,d<m/\W (i+1) d acc a f))
def tLC2 (cap:List (Option Nat)) (j:TI) (g:TG) (c:TI) (n:TG) (tt:TT) (te:TE):TE:=λσ H Q=>j σ H λJ H1=>∀ l,H1 l=none ->
 ∃ W:Nat->Nat->List V->St->Hp->Prop,(∃ m,W 0 m [] (capσ cap σ) (upd H1 l (.lst []))) /\
  ∀ i m acc b H',W i m acc b H'->H' l=some (.lst acc)/\((J.stop i H'/\Q (.ref l) H')\/(J.go i H'/\∀ x f,J.yld i H' x f->g x b f λa q=>c a q λo p =>
   ∃ e:Nat->Nat->List V->St->Hp->Prop,(∃ k,e 0 k acc a p)/\LCW1 o n tt te l (λac h G=>∃ d,d<m/\W (i+1) d ac h G) e))
theorem zk3 {X:Cx}{elt tg iter tg1 iter1:Expr}{o:Option Expr}{scope:Scope}{pos ak:Pos}{wi ar:TI}{g g1:TG}{tt:TT}{te:TE}{N':List Str}{cap:List (Option Nat)}{use:Option (Value->Sem Unit)}{Q0:Value->Shared->Prop}
  (hc:X.calm=true) (hi:PI X tg iter wi) (R:CapOk X.N N' X.env.scope scope cap)
  (hg:∀ C s₀ H₀ fp pins,PG (za4 X N' scope C s₀ H₀ fp pins) tg g)
  (aJ:∀ C s₀ H₀ fp pins,PI (za4 X N' scope C s₀ H₀ fp pins) tg1 iter1 ar)
  (aK:∀ C s₀ H₀ fp pins,PG (za4 X N' scope C s₀ H₀ fp pins) tg1 g1)
  (ht:∀ C s₀ H₀ fp pins,PTo (za4 X N' scope C s₀ H₀ fp pins) o tt)
  (he:∀ C s₀ H₀ fp pins,PE (za4 X N' scope C s₀ H₀ fp pins) elt te)
  (hs:∀ x,foldedSetIterable iter X.env x=pure x) (aG:∀ C x,foldedSetIterable iter1 (compEnvC scope (clOf X.env.cells scope.names []) C X.env) x=pure x) {pins:List (Addr × Obj)}{s:Shared}{σ:St}{H:Hp}{Q:VK}(I:Inv X pins σ H s) (h:tLC2 cap wi g ar g1 tt te σ H Q)
  (fin:∀ (l C:Addr) (O:Hp) (s5:Shared) (m:Str->Option Value),Inv X pins σ O s5->Q (.ref l) O->s5.heap.Ns C m->FpOk X pins O C->compPost (model X.prog X.w) X.A X.xe use Q0 (.ref l) C (.ok .next) s5) :
  wpAny (model X.prog X.w) X.A (comprehension (.ListComp elt [⟨tg,iter,[],0⟩,⟨tg1,iter1,o.toList,0⟩] scope pos) scope X.env ak (newList []) false (eval iter X.env) use) Q0 X.xe s:=by
 have F:∀ y∈scope.names,y.2=.free->∃ c,X.env.cells.lookup y.1=some c:=λy hy hf=>I.ok.has y.1 (R.free y hy hf);refine wpAny_comprehension_free (use:=use) rfl hs (zdX F) R.kind R.names (thn (hi pins s σ H _ I h) λv s1 h1=>thn h1 λa3 s2 h2=>?_);obtain⟨it,fp,tn,J,H2,e,I2,T,st2,f2,body⟩:=h2;subst e;have ap:H2 s2.heap.objs.size=none:=I2.hok.fresh (Jg _);obtain⟨W,⟨m0,w0⟩,turn⟩:=body s2.heap.objs.size ap;have t:Inv X pins σ (upd H2 s2.heap.objs.size (.lst [])) { s2 with heap:=s2.heap.push { cls:=.type "list",data:=.seq ([]:List Value).toArray },toks:=s2.toks }:=I2.lnew (its:=[]) (t':=s2.toks) .nil (JS _);refine JQ (wpAny_newFunctionEnv R.nocell (by intro y hy;simp at hy) (λh₁ E D=>?_) R.kind);dsimp only at E D ⊢;generalize hl:s2.heap.objs.size=l at *;generalize hP:s2.heap.push { cls:=.type "list",dict:=none,data:=.seq ([]:List Value).toArray }=P2 at *;generalize aO:upd H2 l (.lst [])=H3 at *;have old:∀ b o,P2.get? b=some o->h₁.get? b=some o:=λb o e=>D.extBut b o (JA (Jc e)) (J8 _ e);have ao:∀ b o,s2.heap.get? b=some o->P2.get? b=some o:=λb o e=>hP ▸ J8 _ e
 have aB:∀ b∈fp,b<l:=λb hb=>by
  obtain⟨o,e,_⟩:=T.obj _ _ st2 b hb;rw[<- hl];exact Jc e
 have aQ:∀ b∈fp,H3 b=none:=λb hb=>by
  rw[<- aO,zag (JA (aB b hb))];exact(f2 b hb).1
 have aN:P2.objs.size=l+1:=by rw[<- hP,Z4,hl]
 have w:∀ x c,(clOf X.env.cells scope.names []).lookup x=some c->X.env.cells.lookup x=some c:=λx c e=>zcX _ _ x c F (λ_ _ z=>by simp at z) e;generalize ay:({ s2 with heap:=P2,toks:=s2.toks }:Shared)=s3 at *;have f:s3.heap=P2:=by rw[<- ay]
 let Y:=za4 X N' scope P2.objs.size s3 H3 fp pins
 have B:Y.Ok:=by
  refine⟨t.ok.mod,R.kind,t.ok.glob,t.ok.blt,by show s3.heap.objs.size<=P2.objs.size;rw[f];exact Jg _,λx y c e1 e2=>t.ok.inj x y c (w x c e1) (w y c e2),λx hx=>?_,λx c hx=>absurd (show false=true from hx) Jq,t.ok.hd,t.ok.frames,.inl rfl,λb hb=>⟨?_,λx c e=>?_⟩,t.bs,
   JX t.ok.bsz t.sz,λb o e hb=>?_,λb hb hz=>?_,t.stack,t.stkFree⟩
  ·have aF:scope.names.lookup x=some .free:=by
    rcases hx with hx|hx
    ·rcases zbm hx with z|z
     ·exact absurd rfl (R.nocell _ (zcF z))
     ·exact z.2
    ·rcases zbm hx with z|z
     ·exact z
     ·exact z.2
   exact zb0 _ _ x aF
  ·exact JA (by show b<P2.objs.size;rw[aN];exact ZE (aB b hb))
  ·exact(f2 b hb).2.2.2.2.1 x c (w x c e)
  ·rcases (f2 b hb).2.2.2.1 with z|z
   ·exact t.ok.noex b o e z
   ·exact absurd (JF (Jc e) (JX t.ok.bsz z)) (Yz _)
  ·rcases Jh.mp (t.stkSub b hz) with z|z
   ·exact(f2 b hb).2.1 z
   ·exact(f2 b hb).2.2.1 z
 have aM:Inv Y [] (capσ cap σ) H3 { s2 with heap:=h₁,toks:=s2.toks }:=by
  refine⟨B,by show s2.os=s3.os;rw[<- ay],I2.bare,by show Un _ _ _ _ s3.heap h₁;rw[f];exact Un.kept old,⟨_,E,λj x v e1 e2 e3=>?_⟩,λx c e=>?_,?_,λx c e=>t.freeC x c (w x c e),λp hp=>?_,λb o e=>?_,?_⟩
  ·have aT:N'[j]?=some x:=e1
   unfold capσ at e2;rw[JL]at e2
   cases ec:cap[j]? with
   | none=>rw[ec]at e2;cases e2
   | some oc =>
    rw[ec]at e2
    cases oc with
    | none=>cases e2
    | some i =>
     have aR:σ[i]?=some (some v):=by
      cases ei:σ[i]? with
      | none=>simp[ei]at e2
      | some v' =>
       simp[ei]at e2;rw[e2]
     have hz:(x,some i)∈N'.zip cap:=by
      refine JP (i:=j) ?_;rw[Zg];exact⟨aT,ec⟩
     obtain⟨hN,hf,hk⟩:=R.cap _ hz i rfl;obtain⟨m,hn,aH⟩:=t.loc;obtain⟨u,r,lk⟩:=aH i x v hN aR (by rcases hk with z|z;exact .inr (.inl z);exact .inr (.inr z));refine⟨u,r,.inr ⟨?_,?_⟩⟩
     ·exact zcJ hf
     ·rcases lk with ⟨z,_⟩|⟨_,c,aL,ae⟩
      ·have z':X.env.scope.names.lookup x=some .local:=z
       rcases hk with q|q
       ·rw[q]at z';cases z'
       ·rw[q]at z';cases z'
      ·obtain⟨c',az⟩:=zb0 (cells:=X.env.cells) scope.names [] x hf
       have:=w x c' az;rw[aL]at this;cases this;obtain⟨ob,e,d⟩:=ae;rw[f]at e;exact⟨c,az,ob,old c ob e,d⟩
  ·obtain⟨v,ob,e',d⟩:=t.cell x c (w x c e)
   rw[f]at e';exact⟨v,ob,old c ob e',d⟩
  ·refine t.hok.fresh ?_
   rw[f];exact Jg _
  ·have ai:p∈X.pn++pins:=(Jx.mp hp).elim (λz=>z) (λz=>nomatch z)
   obtain⟨e,n,ne,nf,d⟩:=t.pin p ai;rw[f]at e;refine⟨old _ _ e,n,JA (Jc e),λz=>?_,d⟩;rcases Jh.mp (t.stkSub _ z) with q|q
   ·exact ne q
   ·exact nf q
  ·have:=t.hok.kept (h':=h₁) (λb u q=>old b u (by rw[<- f];exact q))
   exact this b o e
  ·show (cap.map _).length=N'.length
   rw[Jm,R.len]
 have L:∀ {H':Hp},(∀ b∈fp,H' b=none)->∀ b∈fp,FpOk Y [] H' b:=λ{H'} hn b hb=>by
  refine⟨hn b hb,(B.exf b hb).1,B.exfs b hb,.inl hb,(B.exf b hb).2,λp hp=>?_⟩;have ai:p∈X.pn++pins:=(Jx.mp hp).elim (λz=>z) (λz=>nomatch z);exact(f2 b hb).2.2.2.2.2 p ai
 have ax:tn 0 h₁:=T.keep 0 _ _ st2 λb hb o e=>old b o (ao b o e)
 have loop:codeAny (model X.prog X.w) X.A (.compLoop (.ListComp elt [⟨tg,iter,[],0⟩,⟨tg1,iter1,o.toList,0⟩] scope pos) 0 (.ref it) (.ref l) Y.env) (compPost (model X.prog X.w) X.A X.xe use Q0 (.ref l) P2.objs.size) { s2 with heap:=h₁,toks:=s2.toks }:=by
  refine zhW (λn s'=>∃ i acc a H',Inv Y [] a H' s'/\tn i s'.heap/\(∀ b∈fp,H' b=none)/\W i n acc a H') ?_ m0 ⟨0,[],_,H3,aM,ax,aQ,w0⟩ (aG _);rintro n s4 ⟨i,acc,af,O,I4,aw,aA,w4⟩;obtain⟨aY,q4⟩:=turn i n acc af O w4;rcases q4 with ⟨stop,qn⟩|⟨go,step⟩
  ·refine thn (T.done Y rfl rfl rfl hc i [] s4 af O Y.xe I4 (L aA) aw stop) λr s5 ⟨hr,I5⟩=>?_
   subst hr;obtain⟨m,hn,_⟩:=id I5.loc;have un:Un (frs X.stack) fp H3 O s3.heap s5.heap:=I5.base;have aC:s3.heap.objs.size<=P2.objs.size:=by rw[f];exact Jg _
   have IX:Inv X pins σ O s5:=t.call' (ch:=fp) I5.os un I5.hok I5.bare λb hb=>⟨(f2 b hb).2.2.2.1,(f2 b hb).2.1,(f2 b hb).2.2.2.2.1,(f2 b hb).2.2.2.2.2⟩;exact fin l P2.objs.size O s5 m IX qn hn (t.fpOk aC I5.free)
  ·refine thn (T.item Y rfl rfl rfl hc i [] s4 af O Y.xe I4 (L aA) aw go) λr s5 ⟨u,hr,h5⟩=>?_
   subst hr;refine thn h5 λ_ s6 ⟨x,H6,I6,r6,y6,ah,aP⟩=>?_;have aW:=I6.pinned (L aP) (T.obj _ _ ah);refine thn (hg _ _ _ _ _ _ s6 af H6 x u _ aW r6 (step x H6 y6)) λ_ s7 ⟨aq,H7,I7,q7⟩=>?_
   have again:∀ {Z:St}{H9:Hp}{s9:Shared}{M:List V},Inv Y ([]++zcK fp s6.heap) Z H9 s9->(∃ P,P<n/\W (i+1) P M Z H9)->∃ m,m<n/\∃ i acc a H',Inv Y [] a H' s9/\tn i s9.heap/\(∀ b∈fp,H' b=none)/\W i m acc a H':=λ{Z H9 s9 M} I9 ⟨P,hm,w9⟩=>by
    refine⟨P,hm,i+1,M,Z,H9,I9.unpinned,T.keep _ _ _ ah λb hb o e=>(I9.pin (b,o) (Jz _ (Jz _ (za0 hb e)))).1,λb hb=>?_,w9⟩;obtain⟨o,e,d⟩:=T.obj _ _ ah b hb;exact(I9.pin (b,o) (Jz _ (Jz _ (za0 hb e)))).2.1
   generalize ([]++zcK fp s6.heap:List (Addr × Obj))=pz at again I7;refine thn (aJ _ _ _ _ _ _ s7 aq H7 _ I7 q7) λv1 s8 h8=>thn h8 λaX s9 h9=>?_;obtain⟨aD,K,au,J1,H9,e1,I9,T1,av,f9,W1,⟨m1,w1⟩,aa⟩:=h9;subst e1;have A:∀ {H':Hp},(∀ b∈K,H' b=none)->∀ b∈K,FpOk Y pz H' b:=λhn b hb=>⟨hn b hb,(f9 b hb).2⟩
   have N:codeAny (model X.prog X.w) X.A (.compLoop (.ListComp elt [⟨tg,iter,[],0⟩,⟨tg1,iter1,o.toList,0⟩] scope pos) 1 (.ref aD) (.ref l) Y.env) (λr z=>match r with|.ok _=>∃ m,m<n/\∃ i acc a H',Inv Y [] a H' z/\tn i z.heap/\(∀ b∈fp,H' b=none)/\W i m acc a H'|.error _=>False) s9:=by
    refine zhV (λn s'=>∃ i acc a H',Inv Y pz a H' s'/\au i s'.heap/\(∀ b∈K,H' b=none)/\W1 i n acc a H') ?_ m1 ⟨0,acc,aq,H9,I9,av,λb hb=>(f9 b hb).1,w1⟩;rintro k t4 ⟨j,ac,U,G4,K4,u4,v4,z4⟩;obtain⟨aZ,p4⟩:=aa j k ac U G4 z4;rcases p4 with ⟨ab,pn⟩|⟨go1,ad⟩
    ·refine thn (T1.done Y rfl rfl rfl hc j pz t4 U G4 Y.xe K4 (A v4) u4 ab) λr t5 ⟨hr,K5⟩=>?_
     subst hr;exact again K5 pn
    ·refine thn (T1.item Y rfl rfl rfl hc j pz t4 U G4 Y.xe K4 (A v4) u4 go1) λr t5 ⟨u,hr,h5⟩=>?_
     subst hr;refine thn h5 λ_ t6 ⟨y,G6,K6,e6,d6,u6,v6⟩=>?_;have aU:=K6.pinned (A v6) (T1.obj _ _ u6);refine thn (aK _ _ _ _ _ _ t6 U G6 y u _ aU e6 (ad y G6 d6)) λ_ t7 ⟨ag,G7,K7,p7⟩=>?_;refine zgt (ht _ _ _ _ _ _ t7 ag G7 _ K7 p7) λb t8 ⟨G8,K8,p8⟩=>?_
     have G:∀ {S:St}{G9:Hp}{t9:Shared}{aj:List V},Inv Y (pz++zcK K t6.heap) S G9 t9->(∃ P,P<k/\W1 (j+1) P aj S G9)->∃ m,m<k/\∃ i acc a H',Inv Y pz a H' t9/\au i t9.heap/\(∀ b∈K,H' b=none)/\W1 i m acc a H':=λ{S G9 t9 aj} K9 ⟨P,hm,z9⟩=>by
      refine⟨P,hm,j+1,aj,S,G9,K9.unpinned,T1.keep _ _ _ u6 λb hb o e=>(K9.pin (b,o) (Jz _ (Jz _ (za0 hb e)))).1,λb hb=>?_,z9⟩;obtain⟨o,e,d⟩:=T1.obj _ _ u6 b hb;exact(K9.pin (b,o) (Jz _ (Jz _ (za0 hb e)))).2.1
     cases b with
     | false =>
      rw[Ja Jq]at p8 ⊢
      exact G K8 p8
     | true =>
      rw[Jf rfl]at p8 ⊢;refine thn (he _ _ _ _ _ _ t8 ag G8 _ K8 p8) λyv t9 ⟨yy,G9,K9,e9,aI,aE,p9⟩=>?_;refine thn (zaW (X:=Y) _ t9 ag G9 (.ref l) [yy] (.ref l) [yv] (λ_ H'=>H'=upd G9 l (.lst (ac++[yy]))) K9 rfl (.cons e9 .nil) ⟨l,ac,yy,rfl,rfl,aI,aE,rfl⟩) λ_ a0 ⟨_,a4,aV,_,aS⟩=>?_;subst aS;exact G aV p9
   exact zge N (T1.self X.A 0 _ _ _ av N)
 exact codeAny_compStart_list loop (T.self X.A 0 _ _ _ ax loop)
theorem zlw {X:Cx}{elt tg iter tg1 iter1:Expr}{o:Option Expr}{scope:Scope}{pos:Pos}{e a:TI}{g i:TG}{tt:TT}{te:TE}{N':List Str}{cap:List (Option Nat)}
  (r:X.calm=true) (hi:PI X tg iter e) (t:CapOk X.N N' X.env.scope scope cap)
  (n:∀ C s₀ H₀ fp pins,PG (za4 X N' scope C s₀ H₀ fp pins) tg g)
  (c:∀ C s₀ H₀ fp pins,PI (za4 X N' scope C s₀ H₀ fp pins) tg1 iter1 a)
  (d:∀ C s₀ H₀ fp pins,PG (za4 X N' scope C s₀ H₀ fp pins) tg1 i)
  (j:∀ C s₀ H₀ fp pins,PTo (za4 X N' scope C s₀ H₀ fp pins) o tt)
  (p:∀ C s₀ H₀ fp pins,PE (za4 X N' scope C s₀ H₀ fp pins) elt te)
  (k:∀ x,foldedSetIterable iter X.env x=pure x:=by intro _;rfl)
  (b:∀ C x,foldedSetIterable iter1 (compEnvC scope (clOf X.env.cells scope.names []) C X.env) x=pure x:=by intro _ _;rfl) :
  PE X (.ListComp elt [⟨tg,iter,[],0⟩,⟨tg1,iter1,o.toList,0⟩] scope pos) (tLC2 cap e g a i tt te):=by
 intro pins s σ H Q I h;rw[eval_ListComp];exact zk3 (use:=none) r hi t n c d j p k b I h λl C v w m u q hn f=>⟨m,hn,λh' sb=>⟨.ref l,v,u.gone f sb,rfl,q⟩⟩
end L2
namespace Own
open PySem PySem.Spec PyProof.Rows
abbrev IsZipC (h:Heap) (z TI TO:Addr) (own:Value) (c:Bool):Prop:=h.get? z=some { cls:=.type "zip",dict:=none,data:=.fields #[own,.bool c,.bool false,.ref TI,.ref TO],slots:=#[] }
section
variable {prog:Program}{w:World}{A:Around}{E:Value->Shared->Prop}{s:Shared}{z TI TO i1 i2:Addr}{f1 f2:List Addr}{n1 n2 k:Nat}{P1 P2:Nat->Value->Prop}{S1 S2:Nat->Heap->Prop}{a b:Value}
theorem zjL {a:Addr}{Q:Option Obj->Shared->Prop}(b:s.heap.get? a=none) (h:Q none s):wpAny (model prog w) A (loadIfAlive a) Q E s:=by
 have h':Q (s.heap.get? a) s:=b.symm ▸ h;exact λ_ _ _=>h'
theorem zgp {α:Type}{t:Addr}{c:Bool}{f:Bool->Sem α}{Q:α->Shared->Prop}(hz:IsZipN s.heap z TI TO t c) (a:s.heap.get? t=none) (h:wpAny (model prog w) A (f true) Q E s) :
  wpAny (model prog w) A (Builtin.SmallTypes.ownedTupleIsFree (.ref z) >>= f) Q E s:=by
 refine J0 ?_;unfold Builtin.SmallTypes.ownedTupleIsFree;refine rf 0 hz rfl rfl ?_;show wpAny _ _ (loadIfAlive ((t:Int).toNat) >>= _) _ _ _;rw[Yt];refine J0 (zjL a ?_);simp only[Option.isNone_none,Yv];exact J7 h
theorem zhS (S:Sep z TI TO i1 i2 f1 f2) (B:Draws prog w A i1 f1 n1 P1 S1) (u:Draws prog w A i2 f2 n2 P2 S2) {Q:Value->Shared->Prop}
  {t:Addr}{g:Bool}(hz:IsZipN s.heap z TI TO t g) (hn:s.heap.get? t=none) (R:IsPair s.heap TI (.ref i1) (.ref i2)) (P:IsPair s.heap TO a b) (V:S1 k s.heap) (U:S2 k s.heap) (l1:k<n1) (l2:k<n2)
  (h:∀ x y h' tk,P1 k x->P2 k y->IsZip h' z TI TO (rawInt s.heap.objs.size)->IsPair h' TO x y->S1 (k+1) h'->S2 (k+1) h'->IsPair h' s.heap.objs.size x y ->
   (∀ c o,c∉[z,TO,i1,i2]->s.heap.get? c=some o->h'.get? c=some o)->Q (.ref s.heap.objs.size) { s with heap:=h',toks:=tk }) :
  wpAny (model prog w) A (Builtin.«zip.__next__» ⟨[.ref z],[]⟩) (λr s'=>∃ v,r=.done (.ret v)/\Q v s') E s:=by
 have nd:=S.all;simp only[JJ,Jh,Je,Y0,Zn]at nd;obtain⟨⟨zI,n,z1,z2⟩,⟨IO,I1,I2⟩,⟨O1,O2⟩,aa,_⟩:=nd;refine rf 2 hz rfl rfl (rf 3 hz rfl rfl (J0 (Y3 R rfl (zgp hz hn ?_))));rw[Jf rfl];refine J0 (YR (rf 4 hz rfl rfl (J0 (Y4 hz (show 0<5 by decide) λha N sa=>J0 ?_))));have C:IsZipC ha z TI TO .ellipsis g:=N;simp only[List.zipIdx_cons,List.zipIdx_nil,Yy,YS];refine J0 (J0 (WD (J0 (B.item k _ _ _ l1 (B.frame _ _ _ V λc f o e=>(sa.2 c λq=>S.z1 (q ▸ f)).trans e) λx hb tb O db sb=>J7 ?_))));have K:IsPair hb TO a b:=(sb.2 TO O1).trans ((sa.2 TO (Ne.symm n)).trans P);refine J0 (Y3 K rfl (J0 (wpAny_updateSeq_pair K λf Z sc=>J0 (Zt (J7 ?_)))));have D:IsPair f TO x b:=Z;have st2:S2 k f:=u.frame _ _ _ U λc hm o e=>(sc.2 c λq=>S.t2 (q ▸ hm)).trans ((sb.2 c λq=>S.o2 (q ▸ hm)).trans ((sa.2 c λq=>S.z2 (q ▸ hm)).trans e));refine J0 (J0 (WD (J0 (u.item k _ _ _ l2 st2 λy hd td py T j=>J7 ?_))));have J:IsPair hd TO x b:=(j.2 TO O2).trans D;refine J0 (Y3 J rfl (J0 (wpAny_updateSeq_pair J λd Y i=>J0 (Zt (J7 (J7 ?_))))));have m:IsPair d TO x y:=Y;refine J0 (Y3 m rfl (J0 (Wv (J0 ?_))));have sz:d.objs.size=s.heap.objs.size:=by rw[i.1,j.1,sc.1,sb.1,sa.1]
 have F:IsZipC d z TI TO .ellipsis g:=(i.2 z n).trans ((j.2 z z2).trans ((sc.2 z n).trans ((sb.2 z z1).trans C)));have zn:d.objs.size≠z:=JT (Jc F);unfold Builtin.SmallTypes.ownedTupleHandOut;refine J0 (Y4 (J8 _ F) (show 0<5 by decide) λhf M H=>Y4 M (show 1<5 by decide) λp L G=>J7 ⟨_,rfl,?_⟩);have up:∀ c o,c≠z->d.get? c=some o->p.get? c=some o:=λc o q e=>(G.2 c q).trans ((H.2 c q).trans (J8 _ e));have new:IsPair p d.objs.size x y:=(G.2 _ zn).trans ((H.2 _ zn).trans (Jt _ rfl));have l:IsZip p z TI TO (rawInt d.objs.size):=L;rw[sz]at new l;show Q (.ref d.objs.size) _;rw[sz];refine h x y p td O py l (up _ _ (Ne.symm n) m) ?_ ?_ new λc o f e=>?_
 ·exact B.frame _ _ _ db λc hm o e=>up c o (λq=>S.z1 (q ▸ hm)) ((i.2 c λq=>S.t1 (q ▸ hm)).trans ((j.2 c λq=>S.o1 (q ▸ hm)).trans ((sc.2 c λq=>S.t1 (q ▸ hm)).trans e)))
 ·exact u.frame _ _ _ T λc hm o e=>up c o (λq=>S.z2 (q ▸ hm)) ((i.2 c λq=>S.t2 (q ▸ hm)).trans e)
 ·simp only[Jh,Je,Y0,Zn]at f
  obtain⟨g,I,X,W⟩:=f;exact up c o g ((i.2 c I).trans ((j.2 c W).trans ((sc.2 c I).trans ((sb.2 c X).trans ((sa.2 c g).trans e)))))
theorem zhO (S:Sep z TI TO i1 i2 f1 f2) (j:Draws prog w A i1 f1 n1 P1 S1) {Q:Fin->Shared->Prop}{t:Addr}{b:Bool}(hz:IsZipN s.heap z TI TO t b) (hn:s.heap.get? t=none) (m:IsPair s.heap TI (.ref i1) (.ref i2)) (n:S1 n1 s.heap)
  (h:∀ h' x,(∀ c o,c∉[z,TO,i1,i2]->s.heap.get? c=some o->h'.get? c=some o)->(∃ o,h'.get? x=some o/\o.cls=.type "StopIteration")->E (.ref x) { s with heap:=h' }):wpAny (model prog w) A (Builtin.«zip.__next__» ⟨[.ref z],[]⟩) Q E s:=by
 have nd:=S.all;simp only[JJ,Jh,Je,Y0,Zn]at nd;obtain⟨⟨u,r,z1,z2⟩,⟨IO,C,B⟩,⟨y,v⟩,p,_⟩:=nd;refine rf 2 hz rfl rfl (rf 3 hz rfl rfl (J0 (Y3 m rfl (zgp hz hn ?_))));rw[Jf rfl];refine J0 (YR (rf 4 hz rfl rfl (J0 (Y4 hz (show 0<5 by decide) λha k sa=>J0 ?_))));have d:IsZipC ha z TI TO .ellipsis b:=k;simp only[List.zipIdx_cons,List.zipIdx_nil,Yy,YS];refine J0 (J0 (WD (J0 (j.done _ _ _ (j.frame _ _ _ n λc a o e=>(sa.2 c λq=>S.z1 (q ▸ a)).trans e) λhb x g ⟨l,ex,i⟩=>?_))));have f:IsZipC hb z TI TO .ellipsis b:=g z _ z1 d;have xz:x≠z:=λq=>by rw[q,f]at ex;cases ex;exact absurd (show Value.type "zip" = Value.type "StopIteration" from i) (by decide)
 refine Y4 f (show 0<5 by decide) λa _ sc=>h a x (λc o hm e=>?_) ⟨l,(sc.2 x xz).trans ex,i⟩;simp only[Jh,Je,Y0,Zn]at hm;exact(sc.2 c hm.1).trans (g c o hm.2.2.1 ((sa.2 c hm.1).trans e))
theorem zhR {t:Addr}{c:Bool}{o:Obj}(S:Sep z TI TO i1 i2 f1 f2) (f:Draws prog w A i1 f1 n1 P1 S1) (d:Draws prog w A i2 f2 n2 P2 S2) {Q:Value->Shared->Prop}
  (hz:IsZipN s.heap z TI TO t c) (l:s.heap.get? t=some o) (m:IsPair s.heap TI (.ref i1) (.ref i2)) (u:S1 k s.heap) (p:S2 k s.heap) (l1:k<n1) (l2:k<n2)
  (h:∀ x y h' tk,P1 k x->P2 k y->IsZipN h' z TI TO t true->S1 (k+1) h'->S2 (k+1) h'->IsPair h' s.heap.objs.size x y ->
   (∀ c o,c∉[z,i1,i2]->s.heap.get? c=some o->h'.get? c=some o)->Q (.ref s.heap.objs.size) { s with heap:=h',toks:=tk }) :
  wpAny (model prog w) A (Builtin.«zip.__next__» ⟨[.ref z],[]⟩) (λr s'=>∃ v,r=.done (.ret v)/\Q v s') E s:=by
 have nd:=S.all;simp only[JJ,Jh,Je,Y0,Zn]at nd;obtain⟨⟨D,C,z1,z2⟩,⟨IO,I,H⟩,⟨G,F⟩,B,_⟩:=nd;refine rf 2 hz rfl rfl (rf 3 hz rfl rfl (J0 (Y3 m rfl (zdZ hz l λha i sa=>?_))));rw[Ja Jq];refine J0 ?_;simp only[List.forIn_toArray,Yy,YS];refine J0 (J0 (Y1 (J0 (f.item k _ _ _ l1 (f.frame _ _ _ u λc a o e=>(sa.2 c λq=>S.z1 (q ▸ a)).trans e) λx hb tb j db sb=>J7 (J7 ?_)))));have st2:S2 k hb:=d.frame _ _ _ p λc hm o e=>(sb.2 c λq=>S.o2 (q ▸ hm)).trans ((sa.2 c λq=>S.z2 (q ▸ hm)).trans e);refine J0 (J0 (Y1 (J0 (d.item k _ _ _ l2 st2 λy hd td py n b=>J7 (J7 (J7 ?_))))));refine J0 (Wv (J7 ⟨_,rfl,?_⟩) (hsz:=by show 2<=sizeLine;decide));have sz:hd.objs.size=s.heap.objs.size:=by rw[b.1,sb.1,sa.1]
 show Q (.ref hd.objs.size) _;rw[sz];have g:IsZipN hd z TI TO t true:=(b.2 z z2).trans ((sb.2 z z1).trans i);have new:(hd.push { cls:=.type "tuple",data:=.seq #[x,y] }).get? s.heap.objs.size=some { cls:=.type "tuple",data:=.seq #[x,y] }:=by rw[<- sz];exact Jt _ rfl
 refine h x y _ td j py (J8 _ g) ?_ ?_ new λc o a e=>?_
 ·exact f.frame _ _ _ db λc hm o e=>J8 _ ((b.2 c λq=>S.o1 (q ▸ hm)).trans e)
 ·exact d.frame _ _ _ n λc hm o e=>J8 _ e
 ·simp only[Jh,Je,Y0,Zn]at a
  exact J8 _ ((b.2 c a.2.2).trans ((sb.2 c a.2.1).trans ((sa.2 c a.1).trans e)))
def AnyZip (h:Heap) (z TI TO:Addr):Prop:=IsZip h z TI TO .none\/∃ t c,IsZipN h z TI TO t c
theorem AnyZip.obj {h:Heap}(x:AnyZip h z TI TO):∃ o,h.get? z=some o/\o.cls=.type "zip"/\∀ v,o.data≠.cell v:=by
 rcases x with x|⟨t,c,x⟩
 ·exact⟨_,x,rfl,λv q=>by cases q⟩
 ·exact⟨_,x,rfl,λv q=>by cases q⟩
theorem zhT (S:Sep z TI TO i1 i2 f1 f2) (C:Draws prog w A i1 f1 n1 P1 S1) (B:Draws prog w A i2 f2 n2 P2 S2) {Q:Value->Shared->Prop}
  (hz:AnyZip s.heap z TI TO) (p:IsPair s.heap TI (.ref i1) (.ref i2)) (n:IsPair s.heap TO a b) (u:S1 k s.heap) (q:S2 k s.heap) (l1:k<n1) (l2:k<n2)
  (h:∀ x y h' tk,P1 k x->P2 k y->AnyZip h' z TI TO->(∃ a b,IsPair h' TO a b)->S1 (k+1) h'->S2 (k+1) h'->IsPair h' s.heap.objs.size x y ->
   (∀ c o,c∉[z,TO,i1,i2]->s.heap.get? c=some o->h'.get? c=some o)->Q (.ref s.heap.objs.size) { s with heap:=h',toks:=tk }) :
  wpAny (model prog w) A (Builtin.«zip.__next__» ⟨[.ref z],[]⟩) (λr s'=>∃ v,r=.done (.ret v)/\Q v s') E s:=by
 rcases hz with hz|⟨t,c,hz⟩
 ·exact zgo S C B hz p n u q l1 l2 λx y h' tk j py f l i g nw d=>h x y h' tk j py (.inr ⟨_,_,f⟩) ⟨_,_,l⟩ i g nw d
 ·cases D:s.heap.get? t with
  | none=>exact zhS S C B hz D p n u q l1 l2 λx y h' tk j py f l i g nw d=>h x y h' tk j py (.inr ⟨_,_,f⟩) ⟨_,_,l⟩ i g nw d
  | some o =>
   have nd:=S.all;simp only[JJ,Jh,Je,Y0,Zn]at nd;obtain⟨⟨K,F,z1,z2⟩,⟨IO,M,L⟩,⟨I,H⟩,J,_⟩:=nd;refine zhR S C B hz D p u q l1 l2 λx y h' tk j py f i g nw d=>h x y h' tk j py (.inr ⟨_,_,f⟩) ⟨_,_,d TO _ (by simp[Ne.symm F,I,H]) n⟩ i g nw λc o G e=>d c o (λm=>G ?_) e;simp only[Jh,Je,Y0]at m ⊢;rcases m with m|m|m
   ·exact .inl m
   ·exact .inr (.inr (.inl m))
   ·exact .inr (.inr (.inr m))
theorem zhP (S:Sep z TI TO i1 i2 f1 f2) (d:Draws prog w A i1 f1 n1 P1 S1) {Q:Fin->Shared->Prop}(hz:AnyZip s.heap z TI TO) (a:IsPair s.heap TI (.ref i1) (.ref i2)) (b:S1 n1 s.heap)
  (h:∀ h' x,(∀ c o,c∉[z,TO,i1,i2]->s.heap.get? c=some o->h'.get? c=some o)->(∃ o,h'.get? x=some o/\o.cls=.type "StopIteration")->E (.ref x) { s with heap:=h' }):wpAny (model prog w) A (Builtin.«zip.__next__» ⟨[.ref z],[]⟩) Q E s:=by
 rcases hz with hz|⟨t,c,hz⟩
 ·exact zgn S d hz a b h
 ·cases e:s.heap.get? t with
  | none=>exact zhO S d hz e a b h
  | some o=>exact zeE S d hz e a b h
theorem zjm {s:Shared}{E:Value->Shared->Prop}{Q:Value->Shared->Prop}(hz:AnyZip s.heap z TI TO) (h:Q (.ref z) s):wpAny (model prog w) A (pyIter (.ref z)) Q E s:=by
 obtain⟨a,b,c,_⟩:=hz.obj;have ty:s.TypeIs (.ref z) "zip":=⟨a,b,c⟩;exact wpAny_pyIter_slot ty F.slot_zip_iter (JV F.slot_zip_iter ty F.entry_zip_iter (show wpAny _ _ (ret (.ref z)) _ _ s from J7 ⟨_,rfl,"zip",_,ty,F.slot_zip_next.lookup,h⟩) (F.args_zip_iter_1 _))
end
end Own
namespace L2
open PySem PySem.Spec PyProof.Rows Own
theorem zhX {P:Program}{w:World}{K:PySem.W.Frag}{y1:Str}{r:Pos}(Q b2:Bool) (p L z TI TO i1 i2:Addr) (nd:[z,TI,TO,i1,i2].Nodup) :
  Turn P w K (.Name y1 r) (Itz K Q b2 p L) [z,TI,TO,i1,i2] z (λi h=>AnyZip h z TI TO/\IsPair h TI (.ref i1) (.ref i2)/\(∃ a b,IsPair h TO a b)/\RIt Q h i1 p i/\RIt b2 h i2 L i) where
 mem:=JC
 obj:=λi h ⟨hz,m,⟨a,b,B⟩,h1,n⟩ c G=>by
  simp only[Jh,Je,Y0]at G;rcases G with rfl|rfl|rfl|rfl|rfl
  ·obtain⟨o,e,_,d⟩:=hz.obj;exact⟨o,e,d⟩
  ·exact⟨_,m,λv q=>by cases q⟩
  ·exact⟨_,B,λv q=>by cases q⟩
  ·exact⟨_,h1,λv q=>by cases q⟩
  ·exact⟨_,n,λv q=>by cases q⟩
 keep:=λi h h' ⟨hz,m,⟨a,b,B⟩,h1,n⟩ F=>⟨hz.imp (λq=>F z (by simp) _ q) (λ⟨t,c,q⟩=>⟨t,c,F z (by simp) _ q⟩),F TI (by simp) _ m,⟨a,b,F TO (by simp) _ B⟩,F i1 (by simp) _ h1,F i2 (by simp) _ n⟩
 item:=by
  intro X Z W hK G i pins s σ H E I u ⟨hz,m,⟨a,b,B⟩,h1,n⟩ ⟨xs,ys,x,y,D,U,N,hy⟩;subst Z W hK;obtain⟨M,R,r⟩:=I.sq D;obtain⟨u2,r2,p2⟩:=I.sq U;obtain⟨v1,e1,rx⟩:=R.get N;obtain⟨v2,e2,ry⟩:=r2.get hy;have j:=nd;simp only[JJ,Jh,Je,Y0,Zn]at j;obtain⟨⟨zI,zO,z1,z2⟩,⟨IO,I1,I2⟩,⟨O1,O2⟩,k,_⟩:=j;have f:∀ c∈[z,TI,TO,i1,i2],c≠p:=λc hm=>I.sq_ne D (u c hm);have C:∀ c∈[z,TI,TO,i1,i2],c≠L:=λc hm=>I.sq_ne U (u c hm);have S:Sep z TI TO i1 i2 [i1,p] [i2,L]:=⟨nd,by simp[z1,f z (by simp)],by simp[O1,f TO (by simp)],by simp[Ne.symm k,f i2 (by simp)],by simp[z2,C z (by simp)],by simp[O2,C TO (by simp)],by simp[k,C i1 (by simp)]⟩;have hd:=I.ok.hd G;have D1:=draws (prog:=X.prog) (w:=X.w) (A:=X.A.in1) hd Q i1 p M.toArray (r.ne h1);have D2:=draws (prog:=X.prog) (w:=X.w) (A:=X.A.in1) hd b2 i2 L u2.toArray (p2.ne n);obtain⟨V,J,cz,dz⟩:=hz.obj;have g:s.TypeIs (.ref z) "zip":=⟨V,J,cz⟩;unfold pyNext
  refine J0 (Zc (wpAny_callSpecial?_slot (name:="__next__") g YM (JV YM g W7 (zhT S D1 D2 hz m B ⟨h1,r⟩ ⟨n,p2⟩ (by simpa using (J9.mp e1).1) (by simpa using (J9.mp e2).1)
   λw1 w2 h' tk ab aa zh ⟨oa,ob,Oh⟩ d1 d2 new O=>J7 ?_) (W0 _))))
  obtain rfl:v1=w1:=Js (e1.symm.trans (by simpa using ab));obtain rfl:v2=w2:=Js (e2.symm.trans (by simpa using aa));refine⟨_,rfl,J7 ?_⟩;have nz:s.heap.objs.size≠z:=JT (Jc J)
  have ad:∀ c∈[z,TI,TO,i1,i2],c≠s.heap.objs.size:=λc hm=>by
   simp only[Jh,Y0,Je]at hm;rcases hm with rfl|rfl|rfl|rfl|rfl
   ·exact JA (Jc J)
   ·exact JA (Jc m)
   ·exact JA (Jc B)
   ·exact JA (Jc h1)
   ·exact JA (Jc n)
  refine⟨.ref s.heap.objs.size,_,I.spunN (fp:=[z,TI,TO,i1,i2]) (λc o hm q=>?_) u (Jg _) (zde new rx ry),rfl,⟨x,y,λl Y=>by rw[I.sq_inj Y D];exact N,λl Y=>by rw[I.sq_inj Y U];exact hy,_,I.fresh,rfl,rfl⟩,
   ⟨zh,O TI _ (by simp[Ne.symm zI,IO,I1,I2]) m,⟨_,_,Oh⟩,d1.1,d2.1⟩,λc hm=>by rw[zag (ad c hm),(u c hm).1]⟩
  simp only[Jh,Je,Y0,Zn]at hm;exact O c o (by simp[hm]) q
 done:=by
  intro X Z W hK G i pins s σ H E I u ⟨hz,m,⟨a,b,B⟩,h1,n⟩ ⟨xs,D,N⟩;subst Z W hK;obtain⟨M,R,r⟩:=I.sq D;have j:=nd;simp only[JJ,Jh,Je,Y0,Zn]at j;obtain⟨⟨zI,zO,z1,z2⟩,⟨IO,I1,I2⟩,⟨O1,O2⟩,k,_⟩:=j;have f:∀ c∈[z,TI,TO,i1,i2],c≠p:=λc hm=>I.sq_ne D (u c hm);have S:Sep z TI TO i1 i2 [i1,p] [i2]:=⟨nd,by simp[z1,f z (by simp)],by simp[O1,f TO (by simp)],by simp[Ne.symm k,f i2 (by simp)],by simp[z2],by simp[O2],by simp[k]⟩;have hsz:i=M.toArray.size:=by rw[Jj,<- R.length,N]
  obtain⟨V,J,cz,dz⟩:=hz.obj;have g:s.TypeIs (.ref z) "zip":=⟨V,J,cz⟩;unfold pyNext
  refine J0 (Zc (wpAny_callSpecial?_slot (name:="__next__") g YM (JV YM g W7
   (zhP S (draws (prog:=X.prog) (w:=X.w) (A:=X.A.in1) (I.ok.hd G) Q i1 p M.toArray (r.ne h1)) hz m ⟨by rw[<- hsz];exact h1,r⟩ λh' x O ⟨o,eo,co⟩=>?_) (W0 _))))
  refine J0 (Zr (T:="StopIteration") (b:=true) ⟨o,eo,co⟩ isSubtype_stop (J7 ⟨rfl,I.spun (t':=s.toks) (fp:=[z,TI,TO,i1,i2]) (λc o hm q=>O c o ?_ q) u⟩));simp only[Jh,Je,Y0,Zn]at hm ⊢;exact⟨hm.1,hm.2.2.1,hm.2.2.2.1,hm.2.2.2.2⟩
 self:=λ_ _ _ _ _ st h=>zjm st.1 h
theorem zmi {X:Cx}{a b:Expr}{ta:TA}{p pos C:Pos}{w:Str}(i g:Bool) (G:Gl X "zip") (hm:X.mg "zip" = none) (ha:PA X [a,b] ta) (D:starEach [a,b] X.env=[(false,eval a X.env),(false,eval b X.env)]:=by rfl) (e:starEach [b] X.env=[(false,eval b X.env)]:=by rfl) :
  PI X (.Name w C) (.Call (.Name "zip" p) [a,b] [] pos) (iZip X.K i g ta):=by
 intro pins s σ H R I h;refine Call_ (zbA I G hm (u:=.type "zip") (by rfl) (Yk (thn (ha pos pins s σ H _ I h) λus s1 ⟨vs,H1,d,A,B⟩=>?_) (by rw[D,e]) (by rw[e];rfl)));obtain⟨t,r,xs,ys,rfl,n,m,q⟩:=B;obtain⟨u,v,rfl,y,x⟩:=A.two;cases y;cases x;obtain⟨its,_,k⟩:=d.sq n;obtain⟨l,_,j⟩:=d.sq m;refine callType_new F.called_zip (by decide) (F.typeCall_zip_2 _ _) (F.newCall_zip_2 _ _) (λobj=>F.args_object_init_3 obj _ _) F.entry_zip_new (zfv i g t r its.toArray l.toArray) ⟨k,j,λh' z ⟨TI,TO,i1,i2,nd,f,hz,K,J,h1,L⟩ E=>⟨⟨_,hz,rfl⟩,?_⟩⟩;exact wpAny_pyIter_zip hz ⟨_,[z,TI,TO,i1,i2],_,_,H1,rfl,d.kept (t':=s1.toks) E,zhX i g t r z TI TO i1 i2 nd,⟨.inl hz,K,⟨_,_,J⟩,h1,L⟩,λc o=>d.fpOk (f c o) (d.hok.fresh (f c o)),q⟩
end L2
namespace Bn
open PySem L2 Own
def pw (e:Nat):Int:=((2 ^ e:Nat):Int)
def more (cs xs:List Int) (k:Int):List Int:=(List.range cs.length).map λi=>cs.getD i 0+k*xs.getD i 0
theorem ziy {H:Hp}{ts:List V}{a b:List Nat}(z:Zip2 H ts (nums a) (nums b)) (n:a.length<=b.length):Prs H ts (a.zip b):=by
 have tl:=z.1;rw[zav]at tl
 have all:∀ (i:Nat) t,ts[i]?=some t->IsFk H t ((a.zip b).getD i (0,0)):=λi t k=>by
  obtain⟨c,x,y,rfl,d,f,l⟩:=z.2 i t k;unfold nums at d f;rw[JL]at d f;obtain⟨h,ex,rfl⟩:=Y8.mp d;obtain⟨g,m,rfl⟩:=Y8.mp f;have both:(a.zip b)[i]?=some (h,g):=Zg.mpr ⟨ex,m⟩;rw[Jb,both];exact⟨c,rfl,l⟩
 have mp:ts.map (decF H)=a.zip b:=by
  refine List.ext_getElem? λi=>?_;rw[JL]
  cases e:ts[i]? with
  | none =>
   have j:=Zi.mp e
   exact(Zi.mpr (by rw[Wi];lia)).symm
  | some t =>
   have j:=(J9.mp e).1;rw[Option.map_some,(all i t e).dec,Jb,J6 (by rw[Wi];lia)];rfl
 rw[<- mp];refine zlv λx d=>?_;obtain⟨i,hi⟩:=YY.mp d;rw[(all i x hi).dec];exact all i x hi
end Bn
namespace L2
open PySem PySem.Spec PyProof.Rows Own
theorem zmT {K:PySem.W.Frag}{j h:Bool}{n k:Addr}{xs ys:List V}(N:xs.length=ys.length) {g C:TG}{f:TI}{tt:TT}{te:TE}{l:Addr}{σ:St}{H:Hp}{Q:VK}(b:Nat->List V->St->Hp->Prop) (J:b 0 [] σ H)
  (F:∀ i acc σ H,b i acc σ H->H l=some (.lst acc)/\SqB j K H n xs/\SqB h K H k ys)
  (E:∀ i acc σ H x y T,xs[i]?=some x->ys[i]?=some y->H T=none->b i acc σ H->g (.ref T) σ (upd H T (.tup [x,y])) λa u=>f a u λs t =>
   ∃ c:Nat->Nat->List V->St->Hp->Prop,(∃ r,c 0 r acc a t)/\LCW1 s C tt te l (λac o G=>Nx xs.length i (b (i+1) ac o G)) c)
  (hd:∀ acc σ H,b xs.length acc σ H->Q (.ref l) H):∃ W:Nat->Nat->List V->St->Hp->Prop,(∃ m,W 0 m [] σ H) /\
   ∀ i m acc d H',W i m acc d H'->H' l=some (.lst acc)/\(((Itz K j h n k).stop i H'/\Q (.ref l) H')\/((Itz K j h n k).go i H'/\∀ x w,(Itz K j h n k).yld i H' x w->g x d w λa u=>f a u λs t =>
    ∃ c:Nat->Nat->List V->St->Hp->Prop,(∃ r,c 0 r acc a t)/\LCW1 s C tt te l (λac o G=>∃ B,B<m/\W (i+1) B ac o G) c)):=by
 refine⟨λi m acc σ H=>m=xs.length-i/\i<=xs.length/\b i acc σ H,⟨xs.length,by simp,JS _,J⟩,?_⟩;rintro i m acc σ H ⟨rfl,hi,p⟩;obtain⟨D,q,A⟩:=F i acc σ H p;refine⟨D,?_⟩;by_cases z:i<xs.length
 ·refine .inr ⟨⟨xs,ys,_,_,q,A,J6 z,J6 (by lia)⟩,λv w ⟨x,y,ex,L,T,I,M,e2⟩=>?_⟩
  subst M e2;exact E i acc σ H x y T (ex xs q) (L ys A) I p
 ·have e:i=xs.length:=by lia
  subst e;exact .inl ⟨⟨xs,q,rfl⟩,hd acc σ H p⟩
theorem zmU {K:PySem.W.Frag}{a:Addr}{zs:List V}{g:TG}{te:TE}{l:Addr}{ac:List V}{σ:St}{H:Hp}{Q:List V->St->Hp->Prop}(b:Nat->List V->St->Hp->Prop) (o:b 0 ac σ H) (n:∀ i acc σ H,b i acc σ H->H l=some (.lst acc)/\SqT K H a zs)
  (k:∀ i x acc σ H,zs[i]?=some x->b i acc σ H->g x σ H λc q=>te c q λy h=>h l=some (.lst acc)/\acc.length<sizeLine/\Nx zs.length i (b (i+1) (acc++[y]) c (upd h l (.lst (acc++[y])))))
  (hd:∀ acc σ H,b zs.length acc σ H->Q acc σ H):∃ W:Nat->Nat->List V->St->Hp->Prop,(∃ m,W 0 m ac σ H)/\LCW1 (Itt K a) g tYes te l Q W:=by
 refine⟨λi m acc σ H=>m=zs.length-i/\i<=zs.length/\b i acc σ H,⟨_,rfl,JS _,o⟩,?_⟩;rintro i m acc σ H ⟨rfl,hi,p⟩;obtain⟨j,d⟩:=n i acc σ H p;refine⟨j,?_⟩;by_cases f:i<zs.length
 ·refine .inr ⟨⟨zs,zs[i],d,J6 f⟩,λx r ⟨e,y⟩=>?_⟩
  subst e;exact k i x acc σ _ (y zs d) p
 ·obtain rfl:i=zs.length:=by lia
  exact .inl ⟨⟨zs,d,Jg _⟩,hd acc σ H p⟩
def zbe {α:Type}(xs ys:List α):List α:=(xs.zip ys).flatMap λp=>[p.1,p.2]
theorem zcv {α:Type}:∀ (xs ys:List α),xs.length=ys.length->(zbe xs ys).length=2*xs.length
 | [],[],_=>rfl
 | x::xs,y::ys,h=>by
  have h':xs.length=ys.length:=by simpa using h
  have:=zcv xs ys h';show (zbe xs ys).length+2=2*(xs.length+1);rw[this];lia
theorem zg7 {α β:Type}(f:α->β) (xs ys:List α):zbe (xs.map f) (ys.map f)=(zbe xs ys).map f:=by
 induction xs generalizing ys with
 | nil=>rfl
 | cons x xs ih =>
  cases ys with
  | nil=>rfl
  | cons y ys =>
   show f x::f y::zbe (xs.map f) (ys.map f)=f x::f y::(zbe xs ys).map f;rw[ih ys]
theorem zco {α β:Type}{f g:α->Option β}:∀ (l:List α),(∀ x∈l,f x=g x)->l.filterMap f=l.filterMap g
 | [],_=>rfl
 | x::l,h=>by
  have e:=zco l λy a=>h y (JB _ a);simp only[List.filterMap_cons,h x JC,e]
def by2 {α:Type}(off:Nat) (xs:List α):List α:=(List.range ((xs.length+1-off) / 2)).filterMap λk=>xs[off+2*k]?
theorem zgi {α:Type}(off:Nat) (a:off<=1) (xs:List α):(by2 off xs).length=(xs.length+1-off) / 2:=by
 unfold by2
 have e:(List.range ((xs.length+1-off) / 2)).filterMap (λk=>xs[off+2*k]?)=(List.range ((xs.length+1-off) / 2)).pmap (λk (h:k<(xs.length+1-off) / 2)=>xs[off+2*k]'(by lia)) (λk h=>YN.mp h):=by
  rw[List.pmap_eq_map_attach,<- List.filterMap_eq_map]
  conv=>lhs;rw[<- List.attach_map_subtype_val (List.range ((xs.length+1-off) / 2)),ZS]
  refine zco _ λk b=>?_;have:=YN.mp k.2;show xs[off+2*k.1]?=some _;rw[J6 (by lia)]
 rw[e,List.length_pmap,YG]
theorem zm9 {α β:Type}(f:α->β) (off:Nat) (xs:List α):by2 off (xs.map f)=(by2 off xs).map f:=by
 unfold by2;rw[Jm,List.map_filterMap];refine zco _ λk _=>?_;rw[JL]
theorem zhU {xs:List V}{us:List Value}(r:Vals xs us) (a:List Nat):Vals (a.filterMap λk=>xs[k]?) (a.filterMap λk=>us[k]?):=by
 induction a with
 | nil=>exact .nil
 | cons i a ih =>
  cases e:xs[i]? with
  | none =>
   have e2:us[i]?=none:=Zi.mpr (by rw[<- r.length];exact Zi.mp e)
   rw[List.filterMap_cons_none e,List.filterMap_cons_none e2];exact ih
  | some x =>
   obtain⟨u,e2,b⟩:=r.get e;rw[List.filterMap_cons_some e,List.filterMap_cons_some e2];exact .cons b ih
theorem zks (items:Array Value):slicePick items none none (some 2)=((List.range ((items.size+1) / 2)).filterMap λk=>items.toList[2*k]?).toArray:=by
 have b:sliceBounds none none (some 2) items.size=(0,(items.size:Int),2):=rfl
 have c:sliceRange 0 (items.size:Int) 2=(List.range ((items.size+1) / 2)).map λk=>2*k:=by
  unfold sliceRange;have a:(2:Int) > 0:=by decide
  by_cases h:(0:Int)<items.size
  ·have e:(((items.size:Int)-0+2-1) / 2).toNat=(items.size+1) / 2:=by lia
   simp only[a,Yv,h,e];apply Wj;intro k _;lia
  ·have e:items.size=0:=by lia
   rw[e];rfl
 unfold slicePick;rw[b];show ((sliceRange 0 (items.size:Int) 2).filterMap (items[·]?)).toArray=_;rw[c,ZS];refine JR List.toArray (zco _ λk _=>?_);simp
theorem ziA (items:Array Value):slicePick items (some 1) none (some 2)=((List.range (items.size / 2)).filterMap λk=>items.toList[1+2*k]?).toArray:=by
 have b:sliceBounds (some 1) none (some 2) items.size=(max 0 (min 1 (items.size:Int)),(items.size:Int),2):=rfl
 have c:sliceRange (max 0 (min 1 (items.size:Int))) (items.size:Int) 2=(List.range (items.size / 2)).map λk=>1+2*k:=by
  unfold sliceRange;have a:(2:Int) > 0:=by decide
  by_cases h:(1:Int)<items.size
  ·have m:max 0 (min 1 (items.size:Int))=1:=by lia
   rw[m];have e:(((items.size:Int)-1+2-1) / 2).toNat=items.size / 2:=by lia
   simp only[a,Yv,h,e];apply Wj;intro k _;lia
  ·have e:items.size=0\/items.size=1:=by lia
   rcases e with e|e<;>rw[e]<;>rfl
 unfold slicePick;rw[b];show ((sliceRange (max 0 (min 1 (items.size:Int))) (items.size:Int) 2).filterMap (items[·]?)).toArray=_;rw[c,ZS];refine JR List.toArray (zco _ λk _=>?_);simp
def tBy2 (K:PySem.W.Frag) (te:TE) (tl ts:TO):TE:=λσ H Q=>te σ H λx H1=>tl σ H1 λlo c=>ts σ c λo b=>o=some 2/\∃ off a xs,((lo=none/\off=0)\/(lo=some 1/\off=1))/\x=.ref a/\SqL K b a xs/\∀ p,b p=none->Q (.ref p) (upd b p (.lst (by2 off xs)))
theorem zgE {X:Cx}{e st:Expr}{lo:Option Expr}{te:TE}{tl ts:TO}{p2 pos:Pos}(C:PE X e te) (B:PO X lo tl) (z:PO X (some st) ts):PE X (.Subscript e (.Slice lo none (some st) p2) pos) (tBy2 X.K te tl ts):=by
 intro pins s σ H Q I h;refine Subscript_ (thn (C pins s σ H _ I h) λv s1 ⟨x,H1,E,n,t⟩=>wpAny_Slice (thn (B pins s1 σ H1 _ E t) λi m ⟨ol,J,F,w,u⟩=>?_));rw[evalPart_none];refine J7 (thn (z pins m σ J _ F u) λd s2 ⟨o,G,D,po,p⟩=>?_);obtain⟨rfl,off,a,xs,c,rfl,A,k⟩:=p;cases n;have f:Inv X pins σ G { s2 with heap:=s2.heap.push { cls:=.type "slice",data:=.fields #[i,.none,d] } }:=D.kept (t':=s2.toks) λb ob q=>J8 _ q;obtain⟨its,r,j,hz⟩:=f.list A;have hlen:=r.length;show wpAny (model X.prog X.w) X.A (subscriptTail e (.Slice lo none (some st) p2) (.ref a) (.ref s2.heap.objs.size)) (EP X pins σ Q) X.xe { s2 with heap:=s2.heap.push { cls:=.type "slice",data:=.fields #[i,.none,d] } };refine tail_any (ops:=[.ref a,.ref s2.heap.objs.size]) j.isList.typeIs slot_list_getitem.lookup (wpAny_getItem_list_slice j.isList (Wt ..) w .none po (by simp) ?_ (by rw[Jj]<;>lia)) (by with_unfolding_all rfl)
 have y:slicePick its.toArray ol none (some 2)=((List.range ((its.length+1-off) / 2)).filterMap λk=>its[off+2*k]?).toArray:=by
  rcases c with ⟨rfl,rfl⟩|⟨rfl,rfl⟩
  ·rw[zks];simp only[Jj,Nat.sub_zero,Yw]
  ·rw[ziA];simp only[Jj,Nat.add_sub_cancel]
 rw[y];have g:off<=1:=by rcases c with ⟨_,rfl⟩|⟨_,rfl⟩<;>decide
 have l:Vals (by2 off xs) ((List.range ((its.length+1-off) / 2)).filterMap λk=>its[off+2*k]?):=by
  have:=zhU r ((List.range ((its.length+1-off) / 2)).map λk=>off+2*k);rw[ZS,ZS]at this;unfold by2;rw[hlen];exact this
 refine⟨.ref _,_,f.laid (t':=s2.toks) (o:=.lst (by2 off xs)) (λb ob q=>J8 _ q) (Jg _) ⟨by rw[zgi off g];lia,_,0,l,?_⟩,rfl,k _ (f.hok.fresh (Jg _))⟩;exact Jt _ rfl
theorem zk4 {K:PySem.W.Frag}{a:Addr}{xs:List V}{g v:TG}{h:TI}{tt:TT}{te:TE}{l:Addr}{σ:St}{H:Hp}{Q:VK}(c:Nat->List V->St->Hp->Prop) (B:c 0 [] σ H)
  (A:∀ i acc σ H,c i acc σ H->H l=some (.lst acc)/\SqL K H a xs)
  (z:∀ i acc σ H x,xs[i]?=some x->c i acc σ H->g x σ H λb r=>h b r λo q =>
   ∃ d:Nat->Nat->List V->St->Hp->Prop,(∃ n,d 0 n acc b q)/\LCW1 o v tt te l (λac j G=>Nx xs.length i (c (i+1) ac j G)) d)
  (hd:∀ acc σ H,c xs.length acc σ H->Q (.ref l) H):∃ W:Nat->Nat->List V->St->Hp->Prop,(∃ m,W 0 m [] σ H) /\
   ∀ i m acc f H',W i m acc f H'->H' l=some (.lst acc)/\(((Itl K a).stop i H'/\Q (.ref l) H')\/((Itl K a).go i H'/\∀ x s,(Itl K a).yld i H' x s->g x f s λb r=>h b r λo q =>
    ∃ d:Nat->Nat->List V->St->Hp->Prop,(∃ n,d 0 n acc b q)/\LCW1 o v tt te l (λac j G=>∃ u,u<m/\W (i+1) u ac j G) d)):=by
 refine⟨λi m acc σ H=>m=xs.length-i/\i<=xs.length/\c i acc σ H,⟨xs.length,by simp,JS _,B⟩,?_⟩;rintro i m acc σ H ⟨rfl,hi,p⟩;obtain⟨w,k⟩:=A i acc σ H p;refine⟨w,?_⟩;by_cases t:i<xs.length
 ·refine .inr ⟨⟨xs,xs[i],k,J6 t⟩,λx s ⟨e,y⟩=>?_⟩
  subst e;exact z i acc σ _ x (y xs k) p
 ·obtain rfl:i=xs.length:=by lia
  exact .inl ⟨⟨xs,k,Jg _⟩,hd acc σ H p⟩
end L2
namespace L2
open PySem PySem.Spec PyProof.Rows Own Bn
def zfp (ts:List Int):Int:=ts.foldl (λa t=>2*a+t) 0
def zeZ (a:Int) (xs:List Int):Int:=xs.foldl (λa x=>1000*a+x) a
def Bits (ts:List Int):Prop:=∀ t∈ts,t=0\/t=1
def Small (xs:List Int):Prop:=∀ x∈xs,0<=x/\x<1000
theorem zjP {a b c d m:Int}(e:0<m) (c0:0<=c) (i:c<m) (g:0<=d) (f:d<m):compare (m*a+c) (m*b+d)=(compare a b).then (compare c d):=by
 rcases ZF a b with h|h|h
 ·have:m*a+c<m*b+d:=by
   have:=Int.mul_le_mul_of_nonneg_left (show a+1<=b by lia) (Int.le_of_lt e);rw[Int.mul_add,Int.mul_one]at this;lia
  rw[YH.mpr this,YH.mpr h];rfl
 ·subst h
  rw[Z8.mpr (rfl:a=a)];show _=compare c d;rcases ZF c d with z|z|z
  ·rw[YH.mpr z,YH.mpr (by lia)]
  ·rw[z]
   rw[Z8.mpr (rfl:d=d),Z8.mpr rfl]
  ·rw[YC.mpr z,YC.mpr (by lia)]
 ·have:m*b+d<m*a+c:=by
   have:=Int.mul_le_mul_of_nonneg_left (show b+1<=a by lia) (Int.le_of_lt e);rw[Int.mul_add,Int.mul_one]at this;lia
  rw[YC.mpr this,YC.mpr h];rfl
theorem zez {m:Int}(d:0<m):∀ {x y:List Int}{a b:Int},x.length=y.length->(∀ t∈x,0<=t/\t<m)->(∀ t∈y,0<=t/\t<m)->compare (x.foldl (λa t=>m*a+t) a) (y.foldl (λa t=>m*a+t) b)=(compare a b).then (cmpR x y)
 | [],[],a,b,_,_,_=>by
  show compare a b=(compare a b).then .eq
  cases compare a b<;>rfl
 | s::x,t::y,a,b,l,f,e=>by
  have h1:=f s (.head _);have g:=e t (.head _);show compare (x.foldl _ (m*a+s)) (y.foldl _ (m*b+t))=(compare a b).then ((compare s t).then (cmpR x y));rw[zez d (by simpa using l) (λu c=>f u (.tail _ c)) λu c=>e u (.tail _ c),zjP d h1.1 h1.2 g.1 g.2];cases compare a b<;>rfl
theorem zjZ {x:List Int}(h:Bits x):∀ t∈x,0<=t/\t<2:=λt a=>by rcases h t a with e|e<;>lia
theorem zlj {x y:List Int}(l:x.length=y.length) (b:Bits x) (a:Bits y):compare (zfp x) (zfp y)=cmpR x y:=by
 unfold zfp;rw[zez (by decide) l (zjZ b) (zjZ a)];rfl
theorem zli {a b:Int}{x y:List Int}(l:x.length=y.length) (d:Small x) (c:Small y):compare (zeZ a x) (zeZ b y)=(compare a b).then (cmpR x y):=zez (by decide) l d c
def stK (ts is:List Int):KN:=.inr ts::is.map Sum.inl
structure StOk (F c:Nat) (k:KN):Prop where
 ex:∃ ts is,k=stK ts is/\ts.length=F/\Bits ts/\is.length=c/\Small is
def zm8:KN->Int
 | .inr ts::r=>zeZ (zfp ts) (r.map λx=>match x with|.inl i=>i|.inr _=>0)
 | _=>0
theorem zgf (ts is:List Int):zm8 (stK ts is)=zeZ (zfp ts) is:=by
 unfold stK zm8;show zeZ _ ((is.map Sum.inl).map _)=_;rw[Zv]
 congr 1
 exact List.map_id is
def rkH (H:Hp):V->Int
 | .ref a=>match H a with
  | some (.tup (b::r))=>zeZ (zfp (rowH H b)) (r.map zhJ)
  | _=>0
 | _=>0
theorem zia {H:Hp}{ts is:List Int}{b:Addr}(h:NKey H (stK ts is) b):∃ t,H b=some (.tup (.ref t::is.map V.int))/\H t=some (.tup (ts.map V.int)):=by
 obtain⟨ys,h1,a⟩:=h;obtain⟨v,r,e,⟨t,c,d⟩,f⟩:=(show ∃ v r,ys=v::r/\(∃ t,v=.ref t/\H t=some (.tup (ts.map V.int)))/\NIvs H (is.map Sum.inl) r from a)
 have key:∀ {is:List Int}{r:List V},NIvs H (is.map Sum.inl) r->r=is.map V.int:=by
  intro is
  induction is with
  | nil=>intro r h;exact h
  | cons i is ih =>
   intro r h;obtain⟨v,q,e,c,a⟩:=(show ∃ v q,r=v::q/\v=.int i/\NIvs H (is.map Sum.inl) q from h);rw[e,c,ih a];rfl
 exact⟨t,by rw[h1,e,c,key f],d⟩
theorem znc {H:Hp}{ts is:List Int}{b t:Addr}(h1:H b=some (.tup (.ref t::is.map V.int))) (a:H t=some (.tup (ts.map V.int))):NKey H (stK ts is) b:=by
 have key:∀ is:List Int,NIvs H (is.map Sum.inl) (is.map V.int):=by
  intro is
  induction is with
  | nil=>exact rfl
  | cons i is ih=>exact⟨_,_,rfl,rfl,ih⟩
 exact⟨_,h1,⟨_,_,rfl,⟨t,rfl,a⟩,key is⟩⟩
theorem zlr {H:Hp}{ts is:List Int}{b:Addr}(h:NKey H (stK ts is) b):rkH H (.ref b)=zm8 (stK ts is):=by
 obtain⟨t,h1,a⟩:=zia h
 show (match H b with
  | some (.tup (b::r))=>zeZ (zfp (rowH H b)) (r.map zhJ)
  | _=>0)=_
 rw[h1];show zeZ (zfp (rowH H (.ref t))) ((is.map V.int).map zhJ)=_;rw[zc7 a,zgf,Zv]
 congr 1
 exact List.map_id is
theorem zov {H:Hp}{F c:Nat}{x y:KN}{a b:Addr}(m:StOk F c x) (k:StOk F c y) (ha:NKey H x a) (hb:NKey H y b):Lx H 2 (.ref a) (.ref b) (compare (rkH H (.ref a)) (rkH H (.ref b))):=by
 obtain⟨ts,is,rfl,h1,o,w,n⟩:=m.ex;obtain⟨us,g,rfl,A,s,z,r⟩:=k.ex;rw[zlr ha,zlr hb,zgf,zgf,zli (by lia) n r,zlj (by lia) o s];obtain⟨t,v,e2⟩:=zia ha;obtain⟨u,f1,f2⟩:=zia hb;have l:is.length=g.length:=by lia
 rw[show (cmpR ts us).then (cmpR is g)=(cmpR ts us::List.zipWith compare is g).foldr Ordering.then .eq by rw[List.foldr_cons,zdt l]];refine .row v f1 (by rw[JW,JW,Jm,List.length_zipWith];lia) (by rw[JW,JW,Jm,List.length_zipWith];lia) λi p q d f e hd=>?_
 cases i with
 | zero=>cases f;cases e;cases hd;exact zfZ e2 f2 (by lia)
 | succ i =>
  rw[List.getElem?_cons_succ]at f e hd;rw[JL]at f e;obtain⟨p,j,rfl⟩:=Y8.mp f;obtain⟨q,h,rfl⟩:=Y8.mp e;rw[List.getElem?_zipWith,j,h]at hd;cases hd;exact .int 1 p q
def KeysAt (H:Hp) (bs:List Addr) (ks:List KN):Prop:=Paired (λb k=>NKey H k b) bs ks
theorem KeysAt.mem {H:Hp}{bs:List Addr}{ks:List KN}(h:KeysAt H bs ks):∀ b∈bs,∃ k∈ks,NKey H k b:=by
 induction h with
 | nil=>intro b hb;cases hb
 | cons q _ ih =>
  intro b hb;rcases Jh.mp hb with rfl|z
  ·exact⟨_,.head _,q⟩
  ·obtain⟨k,a,e⟩:=ih b z
   exact⟨k,.tail _ a,e⟩
theorem LvE.keys {H:Hp}{xs:KVN}{ps:LvL}(h:LvE H xs ps):KeysAt H (xs.map λp=>p.2.1) (ps.map (·.1)):=by
 obtain⟨ks,pr⟩:=h
 induction pr with
 | nil=>exact .nil
 | @cons x p xs ps a t ih =>
  refine .cons ?_ (ih λy b=>ks y (.tail _ b));show NKey H p.1 x.2.1;rw[<- a.1];exact ks x (.head _)
def zls (P:Program) (w:World):List V->Hp->VK->Prop:=λvs H Q=>∃ a xs rk,vs=[.ref a]/\H a=some (DN P w a xs)/\xs.length<=10000/\RkN H (xs.map λp=>.ref p.2.1) rk/\∀ (l:Addr) (ys:List V),H l=none->ys.Perm (xs.map λp=>.ref p.2.1)->ys.Pairwise (λx y=>rk x<=rk y)->Q (.ref l) (upd H l (.lst ys))
theorem zeC {X:Cx}(b:X.calm=true) (a:X.A.units+64<cLine):CallR X (.builtin "sorted") (zls X.prog X.w):=zfm b a
theorem zkj {H:Hp}{F c:Nat}{xs:KVN}{lv:LvL}(h:LvE H xs lv) (ok:∀ p∈lv,StOk F c p.1):RkN H (xs.map λp=>.ref p.2.1) (rkH H):=by
 refine⟨2,by decide,λx a=>?_⟩
 have at_:∀ x∈xs.map λp=>V.ref p.2.1,∃ b k,x=.ref b/\NKey H k b/\StOk F c k:=λx a=>by
  obtain⟨p,o,rfl⟩:=JH.mp a;obtain⟨k,r,e⟩:=h.keys.mem p.2.1 (JH.mpr ⟨p,o,rfl⟩);obtain⟨q,n,rfl⟩:=JH.mp r;exact⟨_,_,rfl,e,ok q n⟩
 obtain⟨b,k,rfl,g,f⟩:=at_ x a;refine⟨?_,λy m=>?_⟩
 ·obtain⟨ts,is,rfl,_⟩:=f.ex
  obtain⟨t,h1,s⟩:=zia g;exact⟨b,t,_,_,rfl,h1,s⟩
 ·obtain⟨d,j,rfl,l,i⟩:=at_ y m
  exact zov f i g l
theorem zk5 {K:PySem.W.Frag}{a:Addr}{zs:List V}{g:TG}{te:TE}{l:Addr}{ac:List V}{σ:St}{H:Hp}{Q:List V->St->Hp->Prop}(b:Nat->List V->St->Hp->Prop) (o:b 0 ac σ H) (n:∀ i acc σ H,b i acc σ H->H l=some (.lst acc)/\SqL K H a zs)
  (k:∀ i x acc σ H,zs[i]?=some x->b i acc σ H->g x σ H λc q=>te c q λy h=>h l=some (.lst acc)/\acc.length<sizeLine/\Nx zs.length i (b (i+1) (acc++[y]) c (upd h l (.lst (acc++[y])))))
  (hd:∀ acc σ H,b zs.length acc σ H->Q acc σ H):∃ W:Nat->Nat->List V->St->Hp->Prop,(∃ m,W 0 m ac σ H)/\LCW1 (Itl K a) g tYes te l Q W:=by
 refine⟨λi m acc σ H=>m=zs.length-i/\i<=zs.length/\b i acc σ H,⟨_,rfl,JS _,o⟩,λi m acc σ H ⟨em,hi,p⟩=>?_⟩;subst em;obtain⟨j,d⟩:=n i acc σ H p;refine⟨j,?_⟩;by_cases f:i<zs.length
 ·refine .inr ⟨⟨zs,zs[i],d,J6 f⟩,λx r ⟨e,y⟩=>?_⟩
  subst e;exact k i x acc σ _ (y zs d) p
 ·obtain rfl:i=zs.length:=by lia
  exact .inl ⟨⟨zs,d,Jg _⟩,hd acc σ H p⟩
theorem LvE.len_le {H:Hp}{xs:KVN}{ps:LvL}(h:LvE H xs ps) {n:Nat}(l:ps.length<=n):xs.length<=n:=by rw[h.len];exact l
theorem zhl {α β:Type}{f:α->β}{ys l:List β}(p:ys.Perm l):∀ {zs:List α},l=zs.map f->∃ cs:List α,ys=cs.map f/\cs.Perm zs:=by
 induction p with
 | nil=>intro zs e;cases zs with
  | nil=>exact⟨[],rfl,.refl _⟩
  | cons a b=>cases e
 | cons b _ ih =>
  intro zs e
  cases zs with
  | nil=>cases e
  | cons a zs =>
   injection e with h e2;obtain⟨cs,h1,g⟩:=ih e2
   exact⟨a::cs,by rw[h1,h];rfl,g.cons _⟩
 | swap b c l =>
  intro zs e
  cases zs with
  | nil=>cases e
  | cons a zs=>cases zs with
   | nil=>cases e
   | cons d zs =>
    injection e with h e2;injection e2 with e2 n
    exact⟨d::a::zs,by rw[h,e2,n];rfl,.swap _ _ _⟩
 | trans _ _ j i =>
  intro zs e;obtain⟨cs,h1,g⟩:=i e;obtain⟨ds,m,k⟩:=j h1;exact⟨ds,m,k.trans g⟩
end L2
namespace K64
open PySem L2 Own Bn
abbrev zma:Stmt:=top 17
theorem ziG {α β:Type}{F:α->β->Prop}{xs:List α}{ys:List β}(h:Paired F xs ys):∀ {i:Nat}{a:α},xs[i]?=some a->∃ b,ys[i]?=some b/\F a b:=by
 induction h with
 | nil=>intro i a e;cases e
 | cons q _ ih =>
  intro i a e
  cases i with
  | zero=>cases Js e;exact⟨_,rfl,q⟩
  | succ i=>exact ih e
theorem zfz (ls:List LvL) (i:Nat):((ls.take i).map List.length).sum<=(ls.map List.length).sum:=by
 induction ls generalizing i with
 | nil=>rw[List.take_nil];exact Jg _
 | cons a ls ih =>
  cases i with
  | zero=>exact JS _
  | succ i=>show a.length+_<=a.length+_;exact Nat.add_le_add_left (ih i) _
def zii (P:Program) (w:World) (F c:Nat):Sp:=λvs H Q _=>∃ l as ls,vs=[.ref l]/\H l=some (.lst (List.map V.ref as))/\LvsAt P w H as ls/\(∀ lv∈ls,lv.length<=10000/\∀ p∈lv,StOk F c p.1)/\(ls.map List.length).sum<=1000000/\∀ p H',Same H H'->Q (.ref p) H'
theorem zmF {H:Hp}{a:Addr}{o:HO}(_:Same H (L2.upd H a o)) (h:H a=none):H a=none:=h
section
variable {P:Program}{w:World}{K:PySem.W.Frag}{mg:Str->Option Value}{base:Heap}
theorem scBo:FnScope ["levels"] ["levels"] (zaj zma):=by trivial
theorem zmB (Z c0:Nat) {f:Addr}{fd:FuncData}(F:Fun K "book_of" "book_of" zma f fd) (G:Mgs mg):FnOk P w K mg base CX0 1 f fd ["levels"] (zii P w Z c0):=by
 refine F.ok scBo (λvs H Q E h=>?_) (λcdv A outer s H vs Q E W h=>?_)
 ·obtain⟨l,as,ls,rfl,_⟩:=h
  rfl
 obtain⟨l,as,ls,rfl,O,r,u,few,k⟩:=h;refine⟨_,(@zai _ _ _ (@zap _ _ _ _ (@zat _ _ _ _ _ _ _ _ _ zar (by rfl) G.tuple (by rfl) (@zaa _ _ _ _ _ (@zlw _ _ _ _ _ _ none _ _ _ (znW K (tCB (zls P w) (zlU (tVar 0) tNil))) _ _ _ _ ["level","state"] [none,none] rfl (@zek _ _ _ _ (@qv _ 0 _ _ (by trivial))) (CapOk.of (by kernel_rfl)) (λ_ _ _ _ _=>@zak _ _ 0 _ (show (["level","state"]:List Str).Nodup from by decide +kernel) rfl (.inl rfl) (.inr rfl)) (λ_ _ _ _ _=>@zek _ _ _ _ (@zau _ _ _ _ _ _ _ _ _ (zeC rfl W.units) (by rfl) G.sorted (by rfl) (@zaa _ _ _ _ _ (@qv _ 0 _ _ (by trivial)) zad (by rfl)) (by decide) (by decide) (by rfl) (by rfl))) (λ_ _ _ _ _=>@zak _ _ 1 _ (show (["level","state"]:List Str).Nodup from by decide +kernel) rfl (.inl rfl) (.inr rfl)) (λ_ _ _ _ _=>zbu) (λ_ _ _ _ _=>@qv _ 1 _ _ (by trivial)) (by intro _;rfl) (by intro _ _;rfl)) zad (by rfl)) (by decide) (by decide) (by rfl) (by rfl)))),?_⟩;refine⟨_,rfl,l,rfl,⟨_,SqL.of O⟩,λm v=>?_⟩;have al:as.length=ls.length:=Z0 r;have s1:=zac v (.lst []);refine zk4 (K:=K) (a:=l) (xs:=as.map V.ref) (Q:=λx H1=>tNil (L2.zdz ["levels"] [V.ref l]) H1 λvs c=>(∃ p ys,x::vs=[V.ref p]/\((SqL K c p ys/\∀ (l:Addr),c l=none->Q (V.ref l) (L2.upd c l (HO.tup ys)))\/SqT K c p ys/\Q (V.ref p) c))) (λi acc σ c=>(∃ v0 d,σ=[v0,d])/\Same H c/\c m=some (.lst acc)/\∃ bs:List Addr,acc=bs.map V.ref/\bs.length=((ls.take i).map List.length).sum) ⟨⟨_,_,rfl⟩,s1,zab,[],rfl,rfl⟩ (λi acc σ c z=>⟨z.2.2.1,SqL.of (z.2.1 _ _ O)⟩) ?_ ?_
 ·rintro i acc σ c x n ⟨⟨v0,d,rfl⟩,s2,B,bs,rfl,bl⟩
  rw[JL]at n;obtain⟨a,S,rfl⟩:=Y8.mp n;have ia:i<as.length:=(J9.mp S).1;have U:i<ls.length:=by lia
  obtain⟨lv,R,xs,hd,le⟩:=ziG r S;have t:lv∈ls:=JP R;have tk:ls.take (i+1)=ls.take i++[lv]:=by rw[<- Z2 U,(J9.mp R).2]
  have y:((ls.take (i+1)).map List.length).sum=bs.length+lv.length:=by rw[tk,JN,List.sum_append,<- bl];rfl
  have sum2:((ls.take (i+1)).map List.length).sum<=1000000:=JX (zfz ls (i+1)) few;have Y:=s2 _ _ hd;have le2:=le.keep s2;refine⟨_,rfl,a,xs,rkH c,rfl,Y,le2.len_le (u lv t).1,zkj le2 (u lv t).2,λq ys N pm _=>?_⟩;have D:=zac N (.lst ys);have T:m≠q:=zae B N;obtain⟨cs,rfl,pc⟩:=zhl (f:=V.ref) (zs:=xs.map λp=>p.2.1) pm (by rw[Zv];rfl);have cl:cs.length=lv.length:=by rw[pc.length_eq,Jm];exact le2.len
  refine⟨q,rfl,⟨_,SqL.of zab⟩,?_⟩;refine zk5 (K:=K) (a:=q) (zs:=cs.map V.ref) (λj acc σ g=>(∃ v0 d,σ=[v0,d])/\Same H g/\(∀ b o,c b=some o->b≠m->g b=some o)/\g q=some (.lst (cs.map V.ref))/\acc=bs.map V.ref++(cs.map V.ref).take j/\g m=some (.lst acc)) ?_ (λj acc σ g z=>⟨z.2.2.2.2.2,SqL.of z.2.2.2.1⟩) ?_ ?_
  ·exact⟨⟨_,_,rfl⟩,s2.trans D,λb o e _=>D b o e,zab,by rw[WA,Yd],D _ _ B⟩
  ·rintro j x acc σ g n ⟨⟨v0,d,rfl⟩,C,M,L,rfl,J⟩
   have I:=(J9.mp n).1;refine⟨_,rfl,J,?_,nx I ⟨⟨_,_,rfl⟩,λb o e=>?_,λb o e ne=>?_,?_,?_,zab⟩⟩
   ·rw[Jn,JE,Jm,Jm,JM]
    rw[Jm]at I;lia
   ·rw[zag (zae e (zmF s1 v))];exact C b o e
   ·rw[zag ne];exact M b o e ne
   ·rw[zag T.symm];exact L
   ·rw[JY]
    congr 1
    rw[<- Z2 I,(J9.mp n).2]
  ·rintro acc σ g ⟨⟨v0,d,rfl⟩,C,M,L,rfl,J⟩
   refine nx (by rw[Jm];exact ia) ⟨⟨_,_,rfl⟩,C,J,bs++cs,?_,?_⟩
   ·rw[Yq,JN]
   ·rw[y,Jn,cl]
 ·rintro acc σ c ⟨⟨v0,d,rfl⟩,s2,B,bs,rfl,bl⟩
  exact⟨m,_,rfl,.inl ⟨SqL.of B,λp X=>k p _ (s2.trans (zac X (.tup (bs.map V.ref))))⟩⟩
end
abbrev sEnd:Stmt:=top 3
abbrev zfI:Stmt:=top 5
abbrev sRun:Stmt:=top 6
theorem znV (h a b:Nat):inV (V.int h) [V.int a,V.int b]=decide (h=a\/h=b):=by
 rw[YE,decide_eq_true_iff];simp[inV,eqV];lia
section
variable {P:Program}{w:World}{K:PySem.W.Frag}{mg:Str->Option Value}{base:Heap}
theorem scD:FnScope ["net","lane"] ["net","lane"] (zaj sEnd):=by trivial
theorem znH {f:Addr}{fd:FuncData}(F:Fun K "end_of" "end_of" sEnd f fd):FnOk P w K mg base CX0 1 f fd ["net","lane"] zlY:=by
 refine F.ok scD (λvs H Q E h=>?_) (λcdv A outer s H vs Q E b h=>?_)
 ·obtain⟨r,fr,er,ps,N,lane,rfl,_⟩:=h
  rfl
 obtain⟨r,fr,er,ps,N,lane,rfl,ok,na,c,k⟩:=h;refine⟨_,(@zai _ _ _ (@zap _ _ _ _ (@zml _ _ _ _ _ _ _ b.units (@zaP _ _ _ _ _ _ _ zbc (@qv _ 0 _ _ (by trivial)) zah (λ_ _=>rfl)) (@zaa _ _ _ _ _ (@qv _ 1 _ _ (by trivial)) zad (by rfl)) (by rfl) (by rfl) (by rfl) (by rfl)))),?_⟩;have a:=na.ends;rw[zkK]at a;refine⟨_,rfl,r,_,_,_,rfl,rfl,SqT.of na.net,rfl,er,_,rfl,a,_,rfl,(lane:Int),rfl,a,?_,?_⟩
 ·exact JH.mpr ⟨lane,ok.en.mem_iff.mpr (YN.mpr c),rfl⟩
 ·rw[zgU];exact k
theorem scR:FnScope ["net","turns","lane","back","behind","here","number","fork","turn"] ["net","turns","lane","back"] (zaj sRun):=by trivial
theorem znD {f fD:Addr}{fd dD:FuncData}(F:Fun K "run_through" "run_through" sRun f fd) (G:Mgs mg) (I:Use P w K mg base "end_of" ["net","lane"] 1 zlY fD dD):FnOk P w K mg base CX0 2 f fd ["net","turns","lane","back"] zlW:=by
 refine F.ok scR (λvs H Q E h=>?_) (λcdv A outer s H vs Q E Z h=>?_)
 ·obtain⟨us,back,rfl,r,fr,er,ps,N,C,ts,lane,rfl,_⟩:=h
  rfl
 obtain⟨us,back,rfl,r,fr,er,ps,N,C,ts,lane,rfl,ok,na,L,tl,bits,hl,k⟩:=h;refine⟨_,(@zaf _ _ _ _ _ (@zaq _ _ 4 _ _ _ _ scR.nd rfl (.inl rfl) (@zat _ _ _ _ _ _ _ _ _ zbr (by rfl) G.list (by rfl) (@zaa _ _ _ _ _ (@qv _ 1 _ _ (by trivial)) zad (by rfl)) (by decide) (by decide) (by rfl) (by rfl)) (by rfl) (by trivial)) (@zaf _ _ _ _ _ (@zaq _ _ 5 _ _ _ _ scR.nd rfl (.inl rfl) (@qv _ 2 _ _ (by trivial)) (by rfl) (by trivial)) (@zaf _ _ _ _ _ (@zbx _ _ _ _ _ _ _ _ Yx rfl (@zmj _ _ _ _ _ _ _ _ false rfl G.enum (@zaa _ _ _ _ _ (@zaP _ _ _ _ _ _ _ zbc (@qv _ 0 _ _ (by trivial)) zah (λ_ _=>rfl)) zad (by rfl)) (by rfl)) (@zaV _ _ _ _ _ _ rfl (@zam _ _ _ _ _ (@zak _ _ 6 _ scR.nd rfl (.inl rfl) (by trivial)) (@zam _ _ _ _ _ (@zak _ _ 7 _ scR.nd rfl (.inl rfl) (by trivial)) zaF (by rfl)) (by rfl)) (by rfl) (by rfl)) (@zai _ _ _ (@zbw _ _ _ _ _ _ _ _ (@zaE _ _ _ _ _ _ _ _ ziI (@qv _ 5 _ _ (by trivial)) (@qv _ 7 _ _ (by trivial)) (by rfl)) (@zaf _ _ _ _ _ (@zaq _ _ 8 _ _ _ _ scR.nd rfl (.inl rfl) (@zaP _ _ _ _ _ _ _ zaK (@qv _ 4 _ _ (by trivial)) (@qv _ 6 _ _ (by trivial)) (λ_ _=>rfl)) (by rfl) (by trivial)) (@zaf _ _ _ _ _ (@zaT _ _ _ _ _ _ (@zao _ _ _ _ _ _ _ _ zbO zah (@qv _ 8 _ _ (by trivial))) (@zch _ _ _ _ _ _ _ (@qv _ 4 _ _ (by trivial)) (@qv _ 6 _ _ (by trivial)) zbd (by intro _;rfl)) (by rfl) (by rfl) (by rfl)) (@zai _ _ _ (@zaq _ _ 5 _ _ _ _ scR.nd rfl (.inl rfl) (@zaP _ _ _ _ _ _ _ zbc (@qv _ 7 _ _ (by trivial)) (@zgD _ _ _ _ _ _ _ _ (@zeS _ _ _ (@qv _ 3 _ _ (by trivial)) (by intro _;rfl)) (@zao _ _ _ _ _ _ _ _ zbO zah (@qv _ 8 _ _ (by trivial))) (@qv _ 8 _ _ (by trivial))) (λ_ _=>rfl)) (by rfl) (by trivial))))) zaI)) (by intro _;rfl)) (@zai _ _ _ (@zap _ _ _ _ (@zaB _ _ _ _ _ (@zaa _ _ _ _ _ (@zat _ _ _ _ _ _ _ _ _ zar (by rfl) G.tuple (by rfl) (@zaa _ _ _ _ _ (@qv _ 4 _ _ (by trivial)) zad (by rfl)) (by decide) (by decide) (by rfl) (by rfl)) (@zaa _ _ _ _ _ (@zal _ _ _ _ _ _ _ _ _ _ _ _ _ _ _ _ I.ok Z (by rfl) I.m I.kp I.b .nil zaw (@zaa _ _ _ _ _ (@qv _ 0 _ _ (by trivial)) (@zaa _ _ _ _ _ (@qv _ 5 _ _ (by trivial)) zad (by rfl)) (by rfl)) (by decide) (by rfl) (by rfl)) zad (by rfl)) (by rfl)))))))),?_⟩;refine⟨_,rfl,C,_,rfl,.inr (SqT.of L),λd D=>⟨_,rfl,?_⟩⟩;have s1:=zac D (.lst (ts.map V.int));refine⟨_,rfl,r,_,_,_,rfl,rfl,SqT.of (s1 _ _ na.net),rfl,fr,ps,rfl,SqT.of (s1 _ _ na.forks),?_⟩
 refine zld (K:=K) (b:=false) (a:=fr) (xs:=ps) (λi σ m=>(∃ B y v,σ=[some (.ref r),some (.ref C),some (.int lane),some (.bl back),some (.ref d),some (.int (zaH back N.forks ts lane i).2),B,y,v])/\Same H m/\m d=some (.lst ((zaH back N.forks ts lane i).1.map V.int)))
  ⟨⟨_,_,_,rfl⟩,s1,zab⟩ (λi σ m _ q=>SqT.of (q.2.1 _ _ na.forks)) ?_ ?_
 ·rintro i x σ m T X S ⟨⟨B,y,v,rfl⟩,s2,n⟩
  obtain⟨a,g,rfl,U,ha⟩:=(na.prs.tups (Tups.of s2)).get X;have gi:i<N.forks.length:=(J9.mp U).1;have gd:N.forks.getD i (0,0)=g:=by rw[Jb,U];rfl
  have rs:zaH back N.forks ts lane (i+1)=zaz back (zaH back N.forks ts lane i) i g:=by show zaz _ _ _ _=_;rw[gd]
  have rl:=zc6 (back:=back) (fs:=N.forks) (ts:=ts) (lane:=lane) i;have W:=zcz (back:=back) (fs:=N.forks) (lane:=lane) bits i;generalize zaH back N.forks ts lane i=st at *;have u:=zac S (.tup [.int i,.ref a]);have lT:d≠T:=zae n S;refine⟨T,_,rfl,SqT.of zab,rfl,_,_,rfl,_,_,rfl,rfl,?_⟩;refine⟨_,rfl,_,rfl,a,_,rfl,.inr (SqT.of (u _ _ ha)),rfl,rfl,_,rfl,?_⟩;show if (if false=true then !inV (V.int (st.2:Nat)) [V.int (g.1:Nat),V.int (g.2:Nat)] else inV (V.int (st.2:Nat)) [V.int (g.1:Nat),V.int (g.2:Nat)])=true then _ else _;rw[Ja Jq,znV];by_cases on:st.2=g.1\/st.2=g.2
  ·rw[JG on]
   refine iteT ?_;have c:zaz back st i g=(st.1.set i (1-st.1.getD i 0),if (if back then 1-st.1.getD i 0 else st.1.getD i 0)=0 then g.1 else g.2):=by unfold zaz;rw[Jf on]
   have J:i<st.1.length:=by lia
   have tb:=W _ (L2.zgX J);have hb:=u _ _ n;refine⟨_,rfl,_,rfl,d,_,_,_,rfl,rfl,SqL.of hb,zbT J,?_⟩;refine⟨_,rfl,_,_,rfl,rfl,_,rfl,_,rfl,d,_,_,i,rfl,rfl,hb,ze9 (by rw[Jm];exact J),?_⟩
   have l:upd (upd m T (.tup [.int i,.ref a])) d (.lst ((st.1.map V.int).set i (.int (1-st.1.getD i 0)))) a=some (.tup [.int g.1,.int g.2]):=by
    rw[zag (by rintro rfl;rw[n]at ha;cases ha)];exact u _ _ ha
   have fin:∀ nx:Nat,nx=(zaz back st i g).2->(∃ B y v,([some (.ref r),some (.ref C),some (.int lane),some (.bl back),some (.ref d),some (.int nx),some (.int i),some (.ref a),some (.int (st.1.getD i 0))]:List (Option V))=[some (.ref r),some (.ref C),some (.int lane),some (.bl back),some (.ref d),some (.int (zaH back N.forks ts lane (i+1)).2),B,y,v]) /\
     Same H (upd (upd m T (.tup [.int i,.ref a])) d (.lst ((st.1.map V.int).set i (.int (1-st.1.getD i 0)))))/\upd (upd m T (.tup [.int i,.ref a])) d (.lst ((st.1.map V.int).set i (.int (1-st.1.getD i 0)))) d=some (.lst ((zaH back N.forks ts lane (i+1)).1.map V.int)):=λnx en=>by
    refine⟨⟨_,_,_,by rw[rs,en]⟩,λb o e=>?_,?_⟩
    ·rw[zag (zae e D)];exact u _ _ (s2 b o e)
    ·rw[zab,rs,c,zbE]
   cases back with
   | false =>
    rcases tb with z|z
    ·exact⟨_,rfl,_,rfl,_,rfl,iteF ⟨_,rfl,a,_,_,_,rfl,rfl,SqT.of l,by rw[z];exact zb6 (j:=0) rfl,fin g.1 (by rw[c,z];rfl)⟩⟩
    ·exact⟨_,rfl,_,rfl,_,rfl,iteF ⟨_,rfl,a,_,_,_,rfl,rfl,SqT.of l,by rw[z];exact zb6 (j:=1) rfl,fin g.2 (by rw[c,z];rfl)⟩⟩
   | true =>
    rcases tb with z|z
    ·exact⟨_,rfl,_,rfl,_,rfl,iteT ⟨_,rfl,_,_,rfl,rfl,a,_,_,_,rfl,rfl,SqT.of l,by rw[z];exact zb6 (j:=1) rfl,fin g.2 (by rw[c,z];rfl)⟩⟩
    ·exact⟨_,rfl,_,rfl,_,rfl,iteT ⟨_,rfl,_,_,rfl,rfl,a,_,_,_,rfl,rfl,SqT.of l,by rw[z];exact zb6 (j:=0) rfl,fin g.1 (by rw[c,z];rfl)⟩⟩
  ·rw[Jv on]
   have c:zaz back st i g=st:=by unfold zaz;rw[Ja on]
   exact iteF ⟨⟨_,_,_,by rw[rs,c];rfl⟩,s2.trans u,by rw[rs,c];exact u _ _ n⟩
 ·rintro σ m ⟨⟨B,y,v,rfl⟩,s2,n⟩
  have O:=na.prs.len;rw[O]at n;have hh:=zdJ (back:=back) (ts:=ts) ok.fk hl N.forks.length (Jg _);refine⟨_,rfl,d,_,rfl,.inl ⟨SqL.of n,λt Y=>?_⟩⟩;have M:=zac Y (.tup ((zaH back N.forks ts lane N.forks.length).1.map V.int));refine⟨_,rfl,_,rfl,r,fr,er,ps,N,_,by rw[O];rfl,ok,na.tups (Tups.of (s2.trans M)),hh,(by show 2<=sizeLine;decide),λp R=>?_⟩;exact k p t _ ((s2.trans M).trans (zac R _)) zab (zac R _ _ _ zab)
theorem scP:FnScope ["net","turns","lane"] ["net","turns","lane"] (zaj zfI):=by trivial
theorem ziK {f d:Addr}{fd e:FuncData}(F:Fun K "passed" "passed" zfI f fd) (a:Use P w K mg base "run_through" ["net","turns","lane","back"] 2 zlW d e):FnOk P w K mg base CX0 3 f fd ["net","turns","lane"] (zic false):=by
 refine F.ok scP (λvs H Q E h=>?_) (λcdv A outer s H vs Q E c h=>?_)
 ·obtain⟨r,fr,er,ps,N,b,ts,lane,rfl,_⟩:=h
  rfl
 obtain⟨r,fr,er,ps,N,b,ts,lane,rfl,q⟩:=h;refine⟨_,(@zai _ _ _ (@zap _ _ _ _ (@zal _ _ _ _ _ _ _ _ _ _ _ _ _ _ _ _ a.ok c (by rfl) a.m a.kp a.b .nil zaw (@zaa _ _ _ _ _ (@qv _ 0 _ _ (by trivial)) (@zaa _ _ _ _ _ (@qv _ 1 _ _ (by trivial)) (@zaa _ _ _ _ _ (@qv _ 2 _ _ (by trivial)) (@zaa _ _ _ _ _ zem zad (by rfl)) (by rfl)) (by rfl)) (by rfl)) (by decide) (by rfl) (by rfl)))),?_⟩;exact⟨_,rfl,_,rfl,_,rfl,[.ref r,.ref b,.int lane],false,rfl,r,fr,er,ps,N,b,ts,lane,rfl,q⟩
end
end K64
namespace L2
open PySem PySem.Spec PyProof.Rows Own
theorem zjg {P:Program}{w:World}{K:PySem.W.Frag}{mg mb:Str->Option Value}{CX:CXT}{k:Nat}{O a:Addr}{fd:FuncData}{x:Str}{sp:Sp}{f:Shared}{vs:List Value}{ns:List Int}(ts:List Addr)
  (Q:K.In f.heap) (E:f.heap.Ns mainGlobals mg) (hb:f.heap.Ns builtinsNs mb) (U:∀ x:Str,x≠"__name__"->mb x=bootBuiltins x) (L:f.heap.NoLimit) (hg:f.gens = #[])
  (ha:f.heap.get? a=some { cls:=.type "list",data:=.seq vs.toArray }) (hi:IntsAre vs ns) (Y:ns.length<=sizeLine) (hr:Room k callerA)
  (A:∀ p∈ts,f.heap.get? p=some (PySem.W.tabObj #[])/\K.lookup p=none/\∃ c,PySem.W.codeHdIn K c p=true)
  (T:∃ bm ob,mg "__builtins__" = some (.ref bm)/\bm≠builtinsNs/\f.heap.get? bm=some ob/\ob.cls=.type "module"/\ob.dict=some builtinsNs/\ob.data=.plain)
  (F:∀ base:Heap,K.In base->base.Ns mainGlobals mg->(∀ p∈ts,base.BuiltinsAt mg p)->FnOk P w K mg base CX k O fd [x] sp) (G:∀ (s:Shared) (u:Value),BindsTo s fd ⟨[u],[]⟩ [(x,u)])
  (S:∀ H:Hp,SqL K H a (ns.map V.int)->(∀ p∈ts,H p=some (.tbl #[]))->sp [.ref a] H (λv _=>v=.bl true) λ_ _ _=>False)
  (W:∀ H e s',CX [] H f (λ_ _ _=>False) e s'->False) :
  codeAny (model P w) callerA (.call (.ref O) ⟨[.ref a],[]⟩) (λr s'=>r=.ok (.ret (.bool true))/\OldK f.heap s'.heap/\s'.os=f.os/\AllBare s'.gens) f:=by
 have X:=zeG hi;have J:=hi.length
 have aT:a∉ts:=λh=>by
  have:=(A a h).1;rw[ha]at this;cases this
 have core:∀ H:Hp,(∀ b,H b=none\/(b=a/\∃ o xs,H b=some (.frz o (.lst xs)))\/(b∈ts/\H b=some (.tbl #[])))->(∀ p∈ts,H p=some (.tbl #[]))->SqL K H a (ns.map V.int)->HOk P w H f.heap->(H a≠none->K.lookup a=none) ->
   codeAny (model P w) callerA (.call (.ref O) ⟨[.ref a],[]⟩) (λr s'=>r=.ok (.ret (.bool true))/\OldK f.heap s'.heap/\s'.os=f.os/\AllBare s'.gens) f:=by
  intro H M Z hS hok hK;have g:∀ {b:Addr}{o:Obj},f.heap.get? b=some o->H b=none->(hidT f.heap H).get? b=some o:=λe n=>zk9 e n
  have R:∀ {b:Addr}{o:Obj}{es:Array DictEntry}{ep:Nat},f.heap.get? b=some o->o.data=.dict es ep->H b=none:=λ{b o es ep} e d=>by
   rcases M b with z|⟨z,_⟩|⟨z,_⟩
   ·exact z
   ·rw[z,ha]at e
    cases e;cases (show Data.seq vs.toArray _=Data.dict es ep from d)
   ·rw[(A b z).1]at e
    cases e;cases (show Data.fields #[]=Data.dict es ep from d)
  have j:∀ {b:Addr}{m:Str->Option Value},f.heap.Ns b m->(hidT f.heap H).Ns b m:=λ{b m} ⟨o,es,ep,e,d,r⟩=>⟨o,es,ep,g e (R e d),d,r⟩
  have I:K.In (hidT f.heap H):=λb o e=>g (Q b o e) (by
   rcases M b with z|⟨z,y⟩|⟨z,_⟩
   ·exact z
   ·obtain⟨o',xs,q⟩:=y
    rw[z]at e q;rw[hK (by rw[q];simp)]at e;cases e
   ·rw[(A b z).2.1]at e;cases e)
  have hM:Mod K mg (hidT f.heap H):=⟨I,j E,⟨mb,j hb,U⟩,let ⟨mc,h1,h2⟩:=L;⟨mc,j h1,h2⟩⟩;have e0:Env0 P w K mg (hidT f.heap H) callerA [] f H:=⟨rfl,hM,λb o e=>zmD e,Nat.le_of_eq (zjq _ _),trivial,λb hb=>absurd (show b∈([]:List Addr) from hb) (by simp),hok,.of_eq hg⟩
  have hB:∀ p∈ts,(hidT f.heap H).BuiltinsAt mg p:=λp B=>by
   obtain⟨bm,ob,b1,b2,D,b4,b5,l⟩:=T;refine⟨bm,ob,b1,b2,λz=>?_,λz=>?_,g D ?_,b4,b5,l⟩
   ·obtain⟨og,es,ep,e,d,_⟩:=E
    rw[<- z,D]at e;rw[<- Js e,l]at d;cases d
   ·have e:=(A p B).1
    rw[<- z,D]at e;rw[Js e]at l;cases l
   ·rcases M bm with z|⟨z,_⟩|⟨z,_⟩
    ·exact z
    ·rw[z,ha]at D
     rw[<- Js D]at l;cases l
    ·rw[(A bm z).1]at D
     rw[<- Js D]at l;cases l
  refine codeAny_mono ((F _ I (j E) hB).run callerA [] f H ⟨[.ref a],[]⟩ [.ref a] [.ref a] _ _ hr e0 (G f (.ref a)) (.cons rfl .nil) (S H hS Z)) λr s' h=>?_
  cases r with
  | error e=>exact(W H e s' h).elim
  | ok fl =>
   cases fl with
   | next=>exact False.elim h
   | brk=>exact False.elim h
   | cont=>exact False.elim h
   | ret u =>
    obtain⟨v,H',os,bare,un,t,r',q⟩:=h;have q':v=.bl true:=q;subst q';obtain rfl:u=Value.bool true:=r'
    have kept:∀ b o,f.heap.get? b=some o->b∉ts->s'.heap.get? b=some o:=λb o e nb=>by
     rcases M b with z|⟨_,ob,xs,z⟩|⟨z,_⟩
     ·exact un.keep b o e z (λy=>absurd (show b∈([]:List Addr) from y) (by simp)) (by simp)
     ·have z2:=un.frzs b ob _ z
      obtain⟨e1,_⟩:=hok b _ z;obtain⟨e2,_⟩:=t b _ z2;rw[e]at e1;cases e1;exact e2
     ·exact absurd z nb
    have tabs:∀ b∈ts,∃ more,s'.heap.get? b=some (PySem.W.tabObj (#[]++more)):=λb hb=>by
     obtain⟨more,z⟩:=un.tbls b _ (Z b hb);exact⟨more,t b _ z⟩
    refine⟨rfl,⟨λb o e=>?_,λb o e=>un.there b o e (by simp)⟩,os,bare⟩;by_cases hb:b∈ts
    ·obtain⟨t1,_,c,t3⟩:=A b hb
     rw[t1]at e;cases e;obtain⟨o2,ws,_,_,_,_,_,_,_,g1,g2,g3,g4,_⟩:=PySem.W.codeHd_of_K Q t3;obtain⟨more,z⟩:=tabs b hb;exact .inr (.inl ⟨⟨c,o2,ws,g1,g2,g3,g4⟩,rfl,#[],more,rfl,z⟩)
    ·exact .inl (kept b o e hb)
 have tab:∀ {H:Hp}{p:Addr},p∈ts->ObjOk P w H f.heap p (.tbl #[]):=λB=>(A _ B).1
 cases N:K.lookup a with
 | some o =>
  have e:=Q a o N;rw[ha]at e;cases e;refine core (λb=>if b∈ts then some (.tbl #[]) else none) (λb=>?_) (λp B=>Jf B) (.inr ⟨_,vs.toArray,_,N,rfl,rfl,rfl,by rw[Jj,J];exact Y,by simpa using X⟩) (λb u z=>?_) λz=>absurd (Ja aT) z
  ·by_cases hb:b∈ts
   ·exact .inr (.inr ⟨hb,Jf hb⟩)
   ·exact .inl (Ja hb)
  ·by_cases hb:b∈ts
   ·have i:=(Jf hb).symm.trans z
    cases i;exact tab hb
   ·have i:=(Ja hb).symm.trans z
    cases i
 | none =>
  refine core (λb=>if b∈ts then some (.tbl #[]) else if b=a then some (.frz { cls:=.type "list",data:=.seq vs.toArray } (.lst (ns.map V.int))) else none) (λb=>?_) (λp B=>Jf B) (.inl (.inr ⟨{ cls:=.type "list",data:=.seq vs.toArray },(Ja aT).trans (Jf rfl)⟩)) (λb u z=>?_) λ_=>N
  ·by_cases hb:b∈ts
   ·exact .inr (.inr ⟨hb,Jf hb⟩)
   ·by_cases C:b=a
    ·exact .inr (.inl ⟨C,_,_,(Ja hb).trans (Jf C)⟩)
    ·exact .inl ((Ja hb).trans (Ja C))
  ·by_cases hb:b∈ts
   ·have i:=(Jf hb).symm.trans z
    cases i;exact tab hb
   ·by_cases C:b=a
    ·have i:=((Ja hb).trans (Jf C)).symm.trans z
     cases i;subst C;exact⟨ha,by rw[Jm];exact Y,vs,_,X,ha⟩
    ·have i:=((Ja hb).trans (Ja C)).symm.trans z
     cases i
theorem zj6 {l:PySem.W.OpenLaw}{n k:Nat}{q:Program}{loose:List Str}{M:(Str->Option Value)->Heap->Prop}{A:World->Heap->Prop}{d:DefRec}{K:Params->PySem.W.Frag}{CX:CXT}{sp:PySem.W.Frag->Sp}{x:Str}(ts:List Addr)
  (hn:l.most=some n) (r:n<=sizeLine) (y:d.params.defaults=[]) (C:Room k callerA)
  (E:∀ (w:World) (h:Heap),A w h->(K w.params).In h/\∀ p∈ts,h.get? p=some (PySem.W.tabObj #[]))
  (F:∀ (w:World) (mg:Str->Option Value) (i:Addr) (h:Heap),(K w.params).In h->h.Ns mainGlobals mg->mg d.name=some (.ref i)->(∀ p∈ts,(K w.params).lookup p=none/\∃ c,PySem.W.codeHdIn (K w.params) c p=true) /\
   ∃ fd:FuncData,(∀ (s:Shared) (u:Value),BindsTo s fd ⟨[u],[]⟩ [(x,u)]) /\
    ∀ base:Heap,(K w.params).In base->base.Ns mainGlobals mg->(∀ p∈ts,base.BuiltinsAt mg p)->FnOk l.prog w (K w.params) mg base CX k i fd [x] (sp (K w.params)))
  (m:∀ (K:PySem.W.Frag) (H:Hp) (a:Addr) (ns:List Int),ns.length<=n->SqL K H a (ns.map V.int)->(∀ p∈ts,H p=some (.tbl #[]))->sp K [.ref a] H (λv _=>v=.bl true) λ_ _ _=>False)
  (z:∀ (H:Hp) (s:Shared) (e:Value) (s':Shared),CX [] H s (λ_ _ _=>False) e s'->False) :
  PySem.W.WalkO q loose M A l.row.toRowW d [] (λf vs=>PySem.call f vs):=by
 refine Att.attach_call hn y λw s₀ b mg mb i o pm cd doc a vs ns G Y O hd N t g hints hlen D=>?_;obtain⟨B,tb⟩:=E w _ Y;obtain⟨tk,fd,hb,L⟩:=F w mg i _ B G.T.g t;exact zjg ts B G.T.g G.T.b G.T.builtins G.T.nolimit D g hints (JX hlen r) C (λp j=>⟨tb p j,(tk p j).1,(tk p j).2⟩) G.T.bmain L hb (λH J I=>m (K w.params) H a ns hlen J I) λH e s'=>z H b e s'
structure FunC (K:PySem.W.Frag) (x qual:Str) (st:Stmt) (f:Addr) (fd:FuncData) (c:Addr):Prop where
 ex:∃ (oc:Value) (od:Option Addr) (kV doc pm:Value) (an:Option Addr) (ct:Value) (osl:Array (Option Value)),
  fd=PySem.W.fnOf x qual (zbI st) (zbb st) (zaj st) .none kV doc pm an (.ref c) ct/\K.lookup f=some ⟨oc,od,.func fd,osl⟩/\PySem.W.codeIn K (.ref c) qual=true
 kp:PySem.W.keepIn K (.ref f)=true
theorem FunC.ok {P:Program}{w:World}{K:PySem.W.Frag}{mg:Str->Option Value}{base:Heap}{x qual:Str}{st:Stmt}{f c:Addr}{fd:FuncData}{N ps:List Str}{k:Nat}{sp:Sp}(F:FunC K x qual st f fd c) (S:FnScope N ps (zaj st)) (len:∀ vs H Q E,sp vs H Q E->vs.length=ps.length)
  (a:∀ (A:Around) (outer:List Env) (s:Shared) (H:Hp) (vs:List V) (Q:VK) (E:XK),Room k (A.deeper (envOfC qual (zaj st) s.heap.objs.size f (.ref c)))->sp vs H Q E ->
   ∃ t,PSs (cxOf CX0 P w K mg base N qual (zaj st) f (.ref c) A outer s H E).nox (zbb st) t/\t { nx:=λ_ H'=>Q .non H',rt:=Q } (zdz N vs) H):FnOk P w K mg base CX0 (k+1) f fd ps sp:=by
 obtain⟨oc,od,kV,doc,pm,an,ct,osl,rfl,e,d⟩:=F.ex;refine zn0 e d S len λA outer s H vs Q E g b=>?_;obtain⟨t,h,q⟩:=a A outer s H vs Q E g b;exact⟨t,h.nox,q⟩
end L2
namespace L2
open PySem PySem.Spec PyProof.Rows Own Bn
def zb2 (N:Nt) (ts:List Int) (lane:Nat):List Int:=(zaH false N.forks ts lane N.forks.length).1
def passE (N:Nt) (ts:List Int) (lane:Nat):Nat:=N.ends.idxOf (zaH false N.forks ts lane N.forks.length).2
def zcQ (N:Nt):KN->Nat->Option KN
 | [.inr ts,.inl r],m=>if ((passE N ts m:Nat):Int)=r then some (stK (zb2 N ts m) [(r+1)%(N.lanes:Nat)]) else none
 | _,_=>none
theorem zeX (N:Nt) (ts:List Int) (lane:Nat):(zb2 N ts lane).length=ts.length:=zc6 _
theorem zdM {N:Nt}{ts:List Int}{lane:Nat}(h:Bits ts):Bits (zb2 N ts lane):=zcz h _
def TabQ (q:Str) (Pt:Addr) (H:Hp):Prop:=∃ l,H Pt=some (.tbl (triples l).toArray)/\TabOk H q l
theorem TabQ.keep {q:Str}{Pt:Addr}{H H':Hp}(t:TabQ q Pt H) (k:∀ b o,H b=some o->(∃ ps,o=.tbl ps)\/(∃ u v,o=.frz u v)->H' b=some o):TabQ q Pt H':=by
 obtain⟨l,h1,a⟩:=t;exact⟨l,k _ _ h1 (.inl ⟨_,rfl⟩),a.frz λb o u e=>k _ _ e (.inr ⟨_,_,rfl⟩)⟩
theorem TabQ.same {q:Str}{Pt:Addr}{H H':Hp}(t:TabQ q Pt H) (s:Same H H'):TabQ q Pt H':=t.keep λb o e _=>s b o e
theorem TabQ.but {q:Str}{Pt l:Addr}{H H':Hp}{xs:List V}(t:TabQ q Pt H) (b:But l H H') (h:H l=some (.lst xs)):TabQ q Pt H':=t.keep λc o e z=>b c o e λy=>by
 rw[y,h]at e;cases e;rcases z with ⟨_,z⟩|⟨_,_,z⟩<;>cases z
def zd9:Sp:=λvs H Q _=>∃ r fr er ps N,vs=[.ref r]/\Nt.Ok N/\NetAt H r fr er ps N/\∀ p H',Same H H'->H' p=some (.tup ((List.replicate N.forks.length (0:Int)).map V.int))->Q (.ref p) H'
structure Whole (Ok:KN->Prop) (most:Nat) (ls:List LvL):Prop where
 ok:∀ lv∈ls,∀ p∈lv,Ok p.1
 few:(ls.map List.length).sum<=most
theorem zdu {step:KN->Nat->Option KN}{Ok:KN->Prop}{moves:List Nat}{most:Nat}(g:∀ s m t,Ok s->m∈moves->step s m=some t->Ok t):∀ (m:Nat) (level seen:LvL) (ls a:List LvL),Whole Ok most ls->(ls.map List.length).sum=seen.length->seen.length<=most->(∀ p∈level,Ok p.1)->za5 step moves most m level seen ls=.whl a->Whole Ok most a
 | 0,_,_,_,_,_,_,_,_,e=>by cases e
 | m+1,level,seen,ls,a,d,i,le,lo,e=>by
  by_cases c:level=[]
  ·subst c;rw[zdv]at e;cases e;exact d
  by_cases h:most<seen.length+level.length
  ·rw[zdw c h]at e;cases e
  by_cases f:(zbj step (seen++level) moves level).fl=[]
  ·rw[zeA c h f]at e
   have e2:((ls++[level]).map List.length).sum=(seen++level).length:=by rw[JN,List.sum_append,i,Jn];rfl
   refine zdu g m _ (seen++level) _ a ⟨λlv j p b=>?_,?_⟩ e2 (by rw[Jn];lia) (λp b=>?_) e
   ·rcases Jx.mp j with z|z
    ·exact d.ok lv z p b
    ·rw[Jd.mp z]at b;exact lo p b
   ·rw[e2,Jn];lia
   ·exact(zeo (step:=step) (seen:=seen++level) (moves:=moves) (Ok:=Ok) level λp b k l t e=>g _ _ _ (lo p b) l e).ok p b
  ·rw[zdx c h f]at e;cases e
theorem TellR.kept {P:Program}{w:World}{H H':Hp}{p:Addr}{R:LRes}(h:TellR P w H p R) (k:∀ b o,H b=some o->(∀ q,o≠FZ q)->H' b=some o):TellR P w H' p R:=by
 have t:Tups H H':=λb xs e=>k b _ e λq z=>by cases z
 cases R with
 | opn=>exact t _ _ h
 | brk c=>obtain⟨b,h1,a⟩:=h;exact⟨b,t _ _ h1,t _ _ a⟩
 | whl ls =>
  obtain⟨l,as,h1,a,d⟩:=h;refine⟨l,as,t _ _ h1,k _ _ a (λq z=>by cases z),?_⟩;clear h1 a
  induction d with
  | nil=>exact .nil
  | cons q _ ih =>
   obtain⟨xs,e,le⟩:=q;exact .cons ⟨xs,k _ _ e (λq z=>by cases z),le.tups t⟩ ih
theorem zhd {cs:List (Str × Addr)}{H:Hp}(fz:CellsFz cs H):∀ b o,H b=some o->(∀ q,o≠FZ q)->za1 cs H b=some o:=λb o e n=>by
 rw[zaA];· exact e
 ·intro hb
  obtain⟨q,z⟩:=fz b hb;rw[e]at z;exact n q (Js z)
theorem zfl:∀ x:List Int,cmpR x x=.eq
 | []=>rfl
 | a::x=>by show (compare a a).then (cmpR x x)=.eq;rw[Z8.mpr rfl,zfl x];rfl
theorem zfk:∀ x y:List Int,cmpR y x=(cmpR x y).swap
 | [],[]=>rfl
 | [],_::_=>rfl
 | _::_,[]=>rfl
 | a::x,b::y=>by
  show (compare b a).then (cmpR y x)=((compare a b).then (cmpR x y)).swap;rw[zfk x y];rcases ZF a b with h|h|h
  ·rw[YH.mpr h,YC.mpr h];rfl
  ·subst h
   rw[Z8.mpr (rfl:a=a)];rfl
  ·rw[YC.mpr h,YH.mpr h];rfl
def leR (x y:List Int):Prop:=cmpR x y≠.gt
theorem zcU (x:List Int):leR x x:=by unfold leR;rw[zfl];exact λh=>by cases h
theorem zbz:∀ {x y z:List Int},leR x y->leR y z->leR x z
 | [],[],[],_,_=>λh=>by cases h
 | [],_,_::_,_,_=>λh=>by cases h
 | [],_::_,[],_,h=>absurd rfl h
 | _::_,[],_,h,_=>absurd rfl h
 | _::_,_::_,[],_,h=>absurd rfl h
 | a::x,b::y,c::z,h1,f=>by
  have e:(compare a b).then (cmpR x y)≠.gt:=h1;have d:(compare b c).then (cmpR y z)≠.gt:=f;show (compare a c).then (cmpR x z)≠.gt;rcases ZF a b with p|p|p
  ·rcases ZF b c with q|q|q
   ·rw[YH.mpr (show a<c by lia)];exact λh=>by cases h
   ·rw[YH.mpr (show a<c by lia)];exact λh=>by cases h
   ·rw[YC.mpr q]at d;exact absurd rfl d
  ·subst p
   rw[Z8.mpr (rfl:a=a)]at e;rcases ZF a c with q|q|q
   ·rw[YH.mpr q];exact λh=>by cases h
   ·subst q
    rw[Z8.mpr (rfl:a=a)]at d ⊢;exact zbz (x:=x) (y:=y) (z:=z) e d
   ·rw[YC.mpr q]at d;exact absurd rfl d
  ·rw[YC.mpr p]at e;exact absurd rfl e
theorem zi2 (x y:List Int):leR (minR x y) x/\leR (minR x y) y:=by
 unfold minR;by_cases h:cmpR y x=.lt
 ·rw[Jf h];exact⟨(by unfold leR;rw[h];exact λz=>by cases z),zcU y⟩
 ·rw[Ja h]
  refine⟨zcU x,λz=>h ?_⟩;rw[zfk x y,z];rfl
theorem zkT:∀ {l:List (List Int)},l≠[]->minL l∈l
 | [],h=>absurd rfl h
 | x::r,_=>by
  have key:∀ (r:List (List Int)) (x:List Int),r.foldl minR x∈x::r:=by
   intro r
   induction r with
   | nil=>intro x;exact .head _
   | cons y r ih =>
    intro x;show r.foldl minR (minR x y)∈x::y::r;rcases Jh.mp (ih (minR x y)) with z|z
    ·rw[z]
     rcases zfX x y with e|e
     ·rw[e];exact .head _
     ·rw[e];exact .tail _ (.head _)
    ·exact .tail _ (.tail _ z)
  exact key r x
theorem zmI:∀ {l:List (List Int)}{x:List Int},x∈l->leR (minL l) x
 | [],x,h=>by cases h
 | a::r,x,h=>by
  have key:∀ (r:List (List Int)) (a:List Int),leR (r.foldl minR a) a/\∀ x∈r,leR (r.foldl minR a) x:=by
   intro r
   induction r with
   | nil=>intro a;exact⟨zcU a,λx b=>(nomatch b)⟩
   | cons y r ih =>
    intro a;obtain⟨h1,e⟩:=ih (minR a y);obtain⟨d,c⟩:=zi2 a y;refine⟨zbz h1 d,λx b=>?_⟩;rcases Jh.mp b with rfl|z
    ·exact zbz h1 c
    ·exact e x z
  rcases Jh.mp h with rfl|z
  ·exact(key r _).1
  ·exact(key r a).2 x z
theorem zfS:∀ {c d:List Int}{m:Nat},c.length=d.length->leR c d->leR (oneM c m) (oneM d m)
 | [],[],m,_,h=>by unfold oneM zaD;exact h
 | a::c,b::d,0,_,h=>by
  have h':(compare a b).then (cmpR c d)≠.gt:=h;show (compare (a+1) (b+1)).then (cmpR c d)≠.gt
  have e:compare (a+1) (b+1)=compare a b:=by
   rcases ZF a b with p|p|p
   ·rw[YH.mpr p,YH.mpr (by lia)]
   ·subst p;rw[Z8.mpr (rfl:a=a),Z8.mpr rfl]
   ·rw[YC.mpr p,YC.mpr (by lia)]
  rw[e];exact h'
 | a::c,b::d,m+1,l,h=>by
  have h':(compare a b).then (cmpR c d)≠.gt:=h;show (compare a b).then (cmpR (oneM c m) (oneM d m))≠.gt
  cases z:compare a b with
  | lt=>exact λh=>by cases h
  | gt=>rw[z]at h';exact absurd rfl h'
  | eq=>rw[z]at h';exact zfS (c:=c) (d:=d) (by simpa using l) h'
theorem zcn (ps:LvL) (k:KN) (r:List Int):getL (putL ps k r) k=some r:=by
 unfold putL;split
 ·rename_i h
  have key:∀ ps:LvL,(getL ps k).isSome=true->getL (ps.map λx=>if x.1=k then (x.1,r) else x) k=some r:=by
   intro ps
   induction ps with
   | nil=>intro h;cases h
   | cons p ps ih =>
    intro h;unfold getL at ih h ⊢;rw[Y6,YW];rw[YW]at h;by_cases z:p.1=k
    ·rw[Jf z]
     show (match decide (p.1=k) with|true=>some (p.1,r)|false=>_).map _=_;rw[JG z];rfl
    ·rw[Ja z,Jv z]
     rw[Jv z]at h;exact ih h
  exact key ps h
 ·rename_i h
  have e:getL ps k=none:=by
   cases g:getL ps k with
   | none=>rfl
   | some x=>rw[g]at h;exact absurd rfl h
  unfold getL at e ⊢;rw[Option.map_eq_none_iff]at e;rw[List.find?_append,e];show Option.map _ ((none:Option (KN × List Int)).or (List.find? _ [(k,r)]))=_;rw[YW];show Option.map _ ((none:Option (KN × List Int)).or (match decide (k=k) with|true=>some (k,r)|false=>_))=_;rw[JG rfl];rfl
theorem zf8 {k j:KN}(r:List Int) (h:j≠k):∀ ps:LvL,getL (ps.map λx=>if x.1=k then (x.1,r) else x) j=getL ps j:=by
 intro ps
 induction ps with
 | nil=>rfl
 | cons p ps ih =>
  unfold getL at ih ⊢;rw[Y6,YW,YW];by_cases z:p.1=k
  ·rw[Jf z]
   have n:¬ p.1=j:=λy=>h (y.symm.trans z);show (match decide (p.1=j) with|true=>_|false=>_:Option (KN × List Int)).map _=_;rw[Jv n];exact ih
  ·rw[Ja z]
   by_cases y:p.1=j
   ·rw[JG y]
   ·rw[Jv y];exact ih
theorem zdm (ps:LvL) {k j:KN}(r:List Int) (h:j≠k):getL (putL ps k r) j=getL ps j:=by
 unfold putL;split
 ·exact zf8 r h ps
 ·unfold getL
  rw[List.find?_append]
  cases e:List.find? (λx=>decide (x.1=j)) ps with
  | some x=>rfl
  | none =>
   show Option.map _ ((none:Option (KN × List Int)).or (List.find? _ [(k,r)]))=_;rw[YW];show Option.map _ ((none:Option (KN × List Int)).or (match decide (k=j) with|true=>some (k,r)|false=>_))=_;rw[Jv (λz=>h z.symm)];rfl
abbrev Tri:=KN × List Int × Nat
structure Met (step:KN->Nat->Option KN) (seen:LvL) (T:List Tri) (a:LAcc):Prop where
 on:∀ t c,getL a.on t=some c->∃ x∈T,step x.1 x.2.2=some t/\c=oneM x.2.1 x.2.2
 has:∀ x∈T,∀ t,step x.1 x.2.2=some t->getL seen t=none->∃ c,getL a.on t=some c/\leR c (oneM x.2.1 x.2.2)
 fl1:∀ r∈a.fl,∃ x∈T,step x.1 x.2.2=none/\r=oneM x.2.1 x.2.2
 fl2:∀ x∈T,step x.1 x.2.2=none->oneM x.2.1 x.2.2∈a.fl
theorem zf7 {α:Type}{o:Option α}(h:¬ o.isSome=true):o=none:=by
 cases o with
 | none=>rfl
 | some x=>exact absurd rfl h
section
variable {step:KN->Nat->Option KN}{seen:LvL}
theorem Met.go {T:List Tri}{a:LAcc}(h:Met step seen T a) (s:KN) (c:List Int) (m:Nat):Met step seen (T++[(s,c,m)]) (go1 step seen s c a m):=by
 have last:∀ {p:Tri->Prop}{x:Tri},x∈T++[(s,c,m)]->(x∈T->p x)->p (s,c,m)->p x:=λb h1 D=>by
  rcases Jx.mp b with z|z
  ·exact h1 z
  ·rw[Jd.mp z];exact D
 have d:∀ {x:Tri},x∈T->x∈T++[(s,c,m)]:=λz=>Ym _ z;have l:((s,c,m):Tri)∈T++[(s,c,m)]:=Jz _ (Jd.mpr rfl);unfold go1
 cases e:step s m with
 | none =>
  refine⟨λt j g=>?_,λx b t f sn=>?_,λr n=>?_,λx b ex=>?_⟩
  ·obtain⟨x,b,q⟩:=h.on t j g;exact⟨x,d b,q⟩
  ·refine last (p:=λx=>step x.1 x.2.2=some t->∃ j,getL a.on t=some j/\leR j (oneM x.2.1 x.2.2)) b (λz f=>h.has x z t f sn) (λf=>?_) f
   have i:step s m=some t:=f;rw[e]at i;cases i
  ·rcases Jx.mp n with z|z
   ·obtain⟨x,b,q⟩:=h.fl1 r z;exact⟨x,d b,q⟩
   ·exact⟨_,l,e,Jd.mp z⟩
  ·exact last (p:=λx=>step x.1 x.2.2=none->oneM x.2.1 x.2.2∈a.fl++[oneM c m]) b (λz ex=>Ym _ (h.fl2 x z ex)) (λ_=>Jz _ (Jd.mpr rfl)) ex
 | some u =>
  dsimp only;by_cases o:(getL seen u).isSome=true
  ·rw[Jf o]
   refine⟨λt j g=>?_,λx b t f sn=>?_,λr n=>?_,λx b ex=>?_⟩
   ·obtain⟨x,b,q⟩:=h.on t j g;exact⟨x,d b,q⟩
   ·refine last (p:=λx=>step x.1 x.2.2=some t->∃ j,getL a.on t=some j/\leR j (oneM x.2.1 x.2.2)) b (λz f=>h.has x z t f sn) (λf=>?_) f
    have i:step s m=some t:=f;rw[e]at i;cases i;rw[sn]at o;cases o
   ·obtain⟨x,b,q⟩:=h.fl1 r n;exact⟨x,d b,q⟩
   ·refine last (p:=λx=>step x.1 x.2.2=none->oneM x.2.1 x.2.2∈a.fl) b (λz ex=>h.fl2 x z ex) (λex=>?_) ex
    have k:step s m=none:=ex;rw[e]at k;cases k
  ·rw[Ja o]
   obtain⟨C,w⟩:=zi2 (oneM c m) ((getL a.on u).getD (oneM c m));refine⟨λt j g=>?_,λx b t f sn=>?_,λr n=>?_,λx b ex=>?_⟩
   ·by_cases tt:t=u
    ·subst tt
     rw[zcn]at g;cases g;rcases zfX (oneM c m) ((getL a.on t).getD (oneM c m)) with q|q
     ·exact⟨_,l,e,q⟩
     ·cases v:getL a.on t with
      | none=>rw[v]at q;exact⟨_,l,e,by rw[Option.getD_none]at q ⊢;exact q⟩
      | some y =>
       rw[v]at q;obtain⟨x,b,B,A⟩:=h.on t y v;exact⟨x,d b,B,by rw[ZJ]at q ⊢;rw[q];exact A⟩
    ·rw[zdm _ _ tt]at g
     obtain⟨x,b,q⟩:=h.on t j g;exact⟨x,d b,q⟩
   ·by_cases tt:t=u
    ·subst tt
     rw[zcn];refine⟨_,rfl,?_⟩;refine last (p:=λx=>step x.1 x.2.2=some t->leR (minR (oneM c m) ((getL a.on t).getD (oneM c m))) (oneM x.2.1 x.2.2)) b (λz f=>?_) (λ_=>C) f;obtain⟨y,E,l2⟩:=h.has x z t f sn;rw[E,ZJ]at w ⊢;exact zbz w l2
    ·rw[zdm _ _ tt]
     refine last (p:=λx=>step x.1 x.2.2=some t->∃ j,getL a.on t=some j/\leR j (oneM x.2.1 x.2.2)) b (λz f=>h.has x z t f sn) (λf=>?_) f;have i:step s m=some t:=f;rw[e]at i;exact absurd (Js i).symm tt
   ·obtain⟨x,b,q⟩:=h.fl1 r n;exact⟨x,d b,q⟩
   ·refine last (p:=λx=>step x.1 x.2.2=none->oneM x.2.1 x.2.2∈a.fl) b (λz ex=>h.fl2 x z ex) (λex=>?_) ex
    have k:step s m=none:=ex;rw[e]at k;cases k
theorem Met.row (s:KN) (c:List Int):∀ (ms:List Nat) {T:List Tri}{a:LAcc},Met step seen T a->Met step seen (T++ms.map λm=>(s,c,m)) (ms.foldl (go1 step seen s c) a)
 | [],T,a,h=>by rw[List.map_nil,Yd];exact h
 | m::r,T,a,h=>by
  have:=Met.row s c r (h.go s c m)
  rwa [JY]at this
def tris (moves:List Nat) (level:LvL):List Tri:=level.flatMap λp=>moves.map λm=>(p.1,p.2,m)
theorem Met.lev (moves:List Nat):∀ (level:LvL) {T:List Tri}{a:LAcc},Met step seen T a->Met step seen (T++tris moves level) (level.foldl (goS step seen moves) a)
 | [],T,a,h=>by show Met step seen (T++[]) a;rw[Yd];exact h
 | p::r,T,a,h=>by
  have:=Met.lev moves r (Met.row p.1 p.2 moves h)
  rwa [JY]at this
theorem zgM (moves:List Nat) (level:LvL):Met step seen (tris moves level) (zbj step seen moves level) :=
 Met.lev moves level (T:=[]) (a:=⟨[],[]⟩) ⟨λt c g=>(by cases g),λx b=>absurd b Je,λr d=>absurd d Je,λx b=>absurd b Je⟩
end
theorem zcS {moves:List Nat}{level:LvL}{x:Tri}:x∈tris moves level↔(x.1,x.2.1)∈level/\x.2.2∈moves:=by
 unfold tris;rw[List.mem_flatMap];constructor
 ·rintro⟨p,b,a⟩
  obtain⟨m,hm,rfl⟩:=JH.mp a;exact⟨b,hm⟩
 ·rintro⟨h1,c⟩
  exact⟨_,h1,JH.mpr ⟨_,c,rfl⟩⟩
def runK (step:KN->Nat->Option KN):KN->List Nat->Option KN
 | s,[]=>some s
 | s,m::r=>(step s m).bind λt=>runK step t r
def cntL (c:List Int) (row:List Nat):List Int:=row.foldl oneM c
theorem za9 (step:KN->Nat->Option KN):∀ (r:List Nat) (s:KN) (m:Nat),runK step s (r++[m])=(runK step s r).bind λt=>step t m
 | [],s,m=>by
  show (step s m).bind (λt=>some t)=step s m
  cases step s m<;>rfl
 | a::r,s,m=>by
  show (step s a).bind (λt=>runK step t (r++[m]))=((step s a).bind λt=>runK step t r).bind λt=>step t m
  cases step s a with
  | none=>rfl
  | some t=>exact za9 step r t m
theorem zbD (c:List Int) (r:List Nat) (m:Nat):cntL c (r++[m])=oneM (cntL c r) m:=by unfold cntL;rw[Z6];rfl
theorem zey (c:List Int) (r:List Nat):(cntL c r).length=c.length:=by
 unfold cntL
 induction r generalizing c with
 | nil=>rfl
 | cons m r ih=>show (r.foldl oneM (oneM c m)).length=_;rw[ih,zcT]
theorem zeg {r:List Nat}{n:Nat}(h:r.length=n+1):∃ q m,r=q++[m]/\q.length=n:=by
 have ne:r≠[]:=λz=>by rw[z]at h;cases h
 refine⟨r.dropLast,r.getLast ne,(List.dropLast_concat_getLast ne).symm,?_⟩;rw[List.length_dropLast];lia
def Over (moves row:List Nat):Prop:=∀ m∈row,m∈moves
structure Clm (step:KN->Nat->Option KN) (moves:List Nat) (k0:KN) (c0:List Int) (n:Nat) (level seen:LvL):Prop where
 fst:(getL (seen++level) k0).isSome=true
 way:∀ t c,getL level t=some c->∃ row,row.length=n/\Over moves row/\runK step k0 row=some t/\cntL c0 row=c
 all:∀ row,row.length<=n->Over moves row->∃ s,runK step k0 row=some s/\(getL (seen++level) s).isSome=true
 cls:∀ s,(getL seen s).isSome=true->∀ m∈moves,∃ t,step s m=some t/\(getL (seen++level) t).isSome=true
 new:∀ s,(getL level s).isSome=true->getL seen s=none
 lst:∀ row s c,row.length=n->Over moves row->runK step k0 row=some s->getL level s=some c->leR c (cntL c0 row)
 nd:LvNd level
 num:n<=seen.length
 rch:∀ s,(getL seen s).isSome=true->∃ row,Over moves row/\runK step k0 row=some s
section
variable {step:KN->Nat->Option KN}{moves:List Nat}{k0:KN}{c0:List Int}{n:Nat}{level seen:LvL}
theorem zbX:∀ {ps:LvL},LvNd ps->∀ {s:KN}{c:List Int},(s,c)∈ps->getL ps s=some c
 | [],_,s,c,h=>by cases h
 | p::ps,nd,s,c,h=>by
  unfold LvNd at nd;rw[Y6,JJ]at nd;unfold getL;rw[YW];rcases Jh.mp h with z|z
  ·rw[<- z]
   show (match decide (s=s) with|true=>some (s,c)|false=>_:Option (KN × List Int)).map _=_;rw[JG rfl];rfl
  ·have n:¬ p.1=s:=λy=>nd.1 (JH.mpr ⟨_,z,y.symm⟩)
   rw[Jv n];exact zbX nd.2 z
theorem Clm.step_of (h:Clm step moves k0 c0 n level seen) {row:List Nat}(d:row.length=n) (b:Over moves row):∃ s,runK step k0 row=some s/\((getL seen s).isSome=true\/∃ c,getL level s=some c):=by
 obtain⟨s,h1,a⟩:=h.all row (by lia) b;refine⟨s,h1,?_⟩;rw[zbF,Wf]at a;rcases a with z|z
 ·exact .inl z
 ·exact .inr (ZM.mp z)
theorem Clm.next (h:Clm step moves k0 c0 n level seen) (ne:level≠[]) (cl:∀ p∈level,p.2.length=c0.length) (fl:(zbj step (seen++level) moves level).fl=[]):Clm step moves k0 c0 (n+1) (zbj step (seen++level) moves level).on (seen++level):=by
 have M:=zgM (step:=step) (seen:=seen++level) moves level;have W:=zeo (step:=step) (seen:=seen++level) (moves:=moves) (Ok:=λ_=>True) level λ_ _ _ _ _ _=>trivial
 have b:∀ s,(getL (zbj step (seen++level) moves level).on s).isSome=true->getL (seen++level) s=none:=λs a=>by
  obtain⟨r,D⟩:=zbP a;exact W.new _ D
 have k:∀ s c,getL level s=some c->∀ m∈moves,∃ t,step s m=some t/\((getL (seen++level) t).isSome=true\/∃ o,getL (zbj step (seen++level) moves level).on t=some o/\leR o (oneM c m)):=λs c g m hm=>by
  have A:((s,c,m):Tri)∈tris moves level:=zcS.mpr ⟨zbp g,hm⟩
  cases e:step s m with
  | none =>
   have:=M.fl2 _ A e
   rw[fl]at this;cases this
  | some t =>
   refine⟨t,rfl,?_⟩;by_cases z:(getL (seen++level) t).isSome=true
   ·exact .inl z
   ·exact .inr (M.has _ A t e (zf7 z))
 have lead:∀ s,(getL (seen++level) s).isSome=true->∀ m∈moves,∃ t,step s m=some t/\(getL ((seen++level)++(zbj step (seen++level) moves level).on) t).isSome=true:=λs a m hm=>by
  rw[zbF,Wf]at a;rcases a with z|z
  ·obtain⟨t,e,q⟩:=h.cls s z m hm
   exact⟨t,e,by rw[zbF,q];rfl⟩
  ·obtain⟨c,g⟩:=ZM.mp z
   obtain⟨t,e,q⟩:=k s c g m hm;refine⟨t,e,?_⟩;rw[zbF];rcases q with q|⟨o,q,_⟩
   ·rw[q];rfl
   ·rw[q];exact Bool.or_true _
 refine⟨by rw[zbF,h.fst];rfl,λt c g=>?_,λrow D i=>?_,lead,b,λrow s c K i a g=>?_,W.nd,?_,λs a=>?_⟩
 ·obtain⟨x,J,e,L⟩:=M.on t c g
  obtain⟨G,F⟩:=zcS.mp J;obtain⟨row,I,v,u,H⟩:=h.way x.1 x.2.1 (zbX h.nd G);refine⟨row++[x.2.2],by rw[Jn,I];rfl,λm hm=>?_,by rw[za9,u];exact e,by rw[zbD,H,L]⟩;rcases Jx.mp hm with z|z
  ·exact v m z
  ·rw[Jd.mp z];exact F
 ·rcases Nat.lt_or_ge n row.length with z|z
  ·obtain⟨q,m,rfl,w⟩:=zeg (show row.length=n+1 by lia)
   obtain⟨s,h1,j⟩:=h.all q (by lia) λm hm=>i m (Ym _ hm);obtain⟨t,e,f⟩:=lead s j m (i m (Jz _ (Jd.mpr rfl)));exact⟨t,by rw[za9,h1];exact e,f⟩
  ·obtain⟨s,h1,j⟩:=h.all row z i
   exact⟨s,h1,by rw[zbF,j];rfl⟩
 ·obtain⟨q,m,rfl,w⟩:=zeg K
  have C:m∈moves:=i m (Jz _ (Jd.mpr rfl));have B:Over moves q:=λm hm=>i m (Ym _ hm);obtain⟨t,h1,j⟩:=h.step_of w B;rw[za9,h1]at a;have l:step t m=some s:=a;have sn:=b s (by rw[g];rfl);rcases j with z|⟨d,gd⟩
  ·obtain⟨t',e,f⟩:=h.cls t z m C
   rw[l]at e;rw[<- Js e,sn]at f;cases f
  ·obtain⟨t',e,f⟩:=k t d gd m C
   rw[l]at e;rw[<- Js e]at f;rcases f with y|⟨o,E,lc⟩
   ·rw[sn]at y;cases y
   ·rw[g]at E
    rw[Js E,zbD];refine zbz lc (zfS ?_ (h.lst q t d w B h1 gd));rw[zey];exact cl _ (zbp gd)
 ·rw[Jn]
  have:=h.num;have:0<level.length:=Wn.mpr ne;lia
 ·rw[zbF,Wf]at a
  rcases a with z|z
  ·exact h.rch s z
  ·obtain⟨c,g⟩:=ZM.mp z
   obtain⟨row,_,v,u,_⟩:=h.way s c g;exact⟨row,v,u⟩
structure Broke (step:KN->Nat->Option KN) (moves:List Nat) (k0:KN) (c0:List Int) (n:Nat) (c:List Int):Prop where
 ex:∃ row m,row.length=n/\Over moves (row++[m])/\cntL c0 (row++[m])=c/\runK step k0 (row++[m])=none
 few:∀ row,row.length<=n->Over moves row->∃ s,runK step k0 row=some s
 lst:∀ row,row.length=n+1->Over moves row->runK step k0 row=none->leR c (cntL c0 row)
theorem Clm.brk (h:Clm step moves k0 c0 n level seen) (cl:∀ p∈level,p.2.length=c0.length) (fl:(zbj step (seen++level) moves level).fl≠[]):Broke step moves k0 c0 n (minL (zbj step (seen++level) moves level).fl):=by
 have M:=zgM (step:=step) (seen:=seen++level) moves level;obtain⟨x,v,e,B⟩:=M.fl1 _ (zkT fl);obtain⟨j,i⟩:=zcS.mp v;obtain⟨row,u,r,o,l⟩:=h.way x.1 x.2.1 (zbX h.nd j);refine⟨⟨row,x.2.2,u,λm hm=>?_,by rw[zbD,l,B],by rw[za9,o];exact e⟩,λrow w b=>?_,λrow y b hn=>?_⟩
 ·rcases Jx.mp hm with z|z
  ·exact r m z
  ·rw[Jd.mp z];exact i
 ·obtain⟨s,h1,_⟩:=h.all row w b
  exact⟨s,h1⟩
 ·obtain⟨q,m,rfl,c⟩:=zeg y
  have g:m∈moves:=b m (Jz _ (Jd.mpr rfl));have f:Over moves q:=λm hm=>b m (Ym _ hm);obtain⟨t,h1,A⟩:=h.step_of c f;rw[za9,h1]at hn;have a:step t m=none:=hn;rcases A with z|⟨d,gd⟩
  ·obtain⟨t',e,_⟩:=h.cls t z m g
   rw[a]at e;cases e
  ·have k:((t,d,m):Tri)∈tris moves level:=zcS.mpr ⟨zbp gd,g⟩
   rw[zbD];refine zbz (zmI (M.fl2 _ k a)) (zfS ?_ (h.lst q t d c f h1 gd));rw[zey];exact cl _ (zbp gd)
end
structure Shut (step:KN->Nat->Option KN) (moves:List Nat) (k0:KN) (ks:List KN):Prop where
 fst:k0∈ks
 cls:∀ s∈ks,∀ m∈moves,∃ t∈ks,step s m=some t
def zcl (ls:List LvL):List KN:=ls.flatMap λlv=>lv.map (·.1)
theorem zjj (a b:List LvL):zcl (a++b)=zcl a++zcl b:=by unfold zcl;rw[List.flatMap_append]
theorem zcm {ps:LvL}{s:KN}:(getL ps s).isSome=true↔s∈ps.map (·.1):=by
 constructor
 ·intro h
  obtain⟨r,a⟩:=zbP h;exact JH.mpr ⟨_,a,rfl⟩
 ·intro h
  obtain⟨p,b,rfl⟩:=JH.mp h;exact zbY b
section
variable {step:KN->Nat->Option KN}{moves:List Nat}{k0:KN}{c0:List Int}{most:Nat}
theorem zg1:∀ (m n:Nat) (level seen:LvL) (ls:List LvL),Clm step moves k0 c0 n level seen->(∀ p∈level,p.2.length=c0.length)->zcl ls=seen.map (·.1)->LvNd (seen++level)->seen.length<=most ->
  match za5 step moves most m level seen ls with
  | .opn=>True
  | .brk c=>∃ k,k<=most/\Broke step moves k0 c0 k c
  | .whl d=>Shut step moves k0 (zcl d)/\(zcl d).Nodup/\(zcl d).length<=most/\∀ s∈zcl d,∃ row,Over moves row/\runK step k0 row=some s
 | 0,_,_,_,_,_,_,_,_,_=>trivial
 | m+1,n,level,seen,ls,h,cl,j,nd,le=>by
  by_cases g:level=[]
  ·subst g
   rw[zdv];have e:zcl ls=(seen++([]:LvL)).map (λp:KN × List Int=>p.1):=by rw[Yd];exact j
   refine⟨⟨by rw[e];exact zcm.mp h.fst,λs i m hm=>?_⟩,by rw[e];exact nd,by rw[j,Jm];exact le,λs i=>?_⟩
   ·rw[j]at i
    obtain⟨t,o,l⟩:=h.cls s (zcm.mpr i) m hm;exact⟨t,by rw[e];exact zcm.mp l,o⟩
   ·rw[j]at i
    exact h.rch s (zcm.mpr i)
  by_cases hm:most<seen.length+level.length
  ·rw[zdw g hm];trivial
  by_cases f:(zbj step (seen++level) moves level).fl=[]
  ·rw[zeA g hm f]
   have na:=zgN (step:=step) (seen:=seen++level) (moves:=moves) (n:=c0.length) level cl;have W:=zeo (step:=step) (seen:=seen++level) (moves:=moves) (Ok:=λ_=>True) level λ_ _ _ _ _ _=>trivial;refine zg1 m (n+1) _ _ _ (h.next g cl f) na.on ?_ ?_ (by rw[Jn];lia)
   ·rw[zjj,j,JN]
    congr 1
    show level.map (λp:KN × List Int=>p.1)++[]=level.map (λp:KN × List Int=>p.1);rw[Yd]
   ·unfold LvNd
    rw[JN];refine List.nodup_append.mpr ⟨nd,W.nd,λa ha b hb e=>?_⟩;subst e;obtain⟨p,q,rfl⟩:=JH.mp hb;have:=W.new p q;have z:=zcm.mpr ha;rw[this]at z;cases z
  ·rw[zdx g hm f]
   exact⟨n,by have:=h.num;lia,h.brk cl f⟩
theorem zjQ:Clm step moves k0 c0 0 [(k0,c0)] []:=by
 have b:getL [(k0,c0)] k0=some c0:=zbX (show LvNd [(k0,c0)] from JJ.mpr ⟨Je,Zs⟩) (.head _)
 have only:∀ {t:KN}{c:List Int},getL [(k0,c0)] t=some c->t=k0/\c=c0:=λg=>by
  have e:=Jd.mp (zbp g);injection e with i e2;exact⟨i,e2⟩
 have nil:∀ {row:List Nat},row.length<=0->row=[]:=λh=>ZU.mp (by lia);refine⟨by rw[Zy,b];rfl,λt c g=>?_,λrow d _=>?_,λs a=>(by cases a),λs _=>rfl,λrow s c f _ a g=>?_,JJ.mpr ⟨Je,Zs⟩,Jg _,λs a=>(by cases a)⟩
 ·obtain⟨rfl,rfl⟩:=only g
  exact⟨[],rfl,λm hm=>absurd hm Je,rfl,rfl⟩
 ·rw[nil d]
  exact⟨k0,rfl,by rw[Zy,b];rfl⟩
 ·obtain⟨_,rfl⟩:=only g
  rw[nil (Nat.le_of_eq f)];exact zcU _
theorem zjS:match za5 step moves most (most+1) [(k0,c0)] [] [] with
  | .opn=>True
  | .brk c=>∃ b,b<=most/\Broke step moves k0 c0 b c
  | .whl a=>Shut step moves k0 (zcl a)/\(zcl a).Nodup/\(zcl a).length<=most/\∀ s∈zcl a,∃ row,Over moves row/\runK step k0 row=some s :=
 zg1 (most+1) 0 _ _ _ zjQ (λp d=>by rw[Jd.mp d]) rfl (JJ.mpr ⟨Je,Zs⟩) (JS _)
theorem Shut.run {ks:List KN}(b:Shut step moves k0 ks):∀ (row:List Nat) {s:KN},s∈ks->Over moves row->∃ t∈ks,runK step s row=some t
 | [],s,a,_=>⟨s,a,rfl⟩
 | m::r,s,a,c=>by
  obtain⟨t,g,e⟩:=b.cls s a m (c m (.head _));obtain⟨u,f,e2⟩:=Shut.run b r g λx d=>c x (.tail _ d);exact⟨u,f,by show (step s m).bind _=_;rw[e];exact e2⟩
end
def zF (N:Nt):List Int:=List.replicate N.forks.length 0
def zL (N:Nt):List Int:=List.replicate N.lanes 0
def tsAt (N:Nt) (row:List Nat) (i:Nat):List Int:=(row.take i).foldl (zb2 N) (zF N)
def okAt (N:Nt) (row:List Nat) (i:Nat):Prop:=passE N (tsAt N row i) (row.getD i 0)=i%N.lanes
def zf5 (N:Nt) (row:List Nat) (i:Nat):KN:=stK (tsAt N row i) [((i%N.lanes:Nat):Int)]
def k0P (N:Nt):KN:=stK (zF N) [0]
theorem zeH (N:Nt) {row:List Nat}{i:Nat}(h:i<row.length):tsAt N row (i+1)=zb2 N (tsAt N row i) (row.getD i 0):=by
 unfold tsAt;rw[<- Z2 h,Z6,Jb,J6 h];rfl
theorem za8 {row:List Nat}{i:Nat}(h:i<row.length):row.take (i+1)=row.take i++[row.getD i 0]:=by
 rw[<- Z2 h,Jb,J6 h];rfl
theorem zeJ (N:Nt) (row:List Nat) (i:Nat):zcQ N (zf5 N row i) (row.getD i 0)=if ((passE N (tsAt N row i) (row.getD i 0):Nat):Int)=((i%N.lanes:Nat):Int) then some (stK (zb2 N (tsAt N row i) (row.getD i 0)) [(((i%N.lanes:Nat):Int)+1)%(N.lanes:Nat)]) else none:=rfl
theorem ziv (N:Nt) (row:List Nat):∀ i,i<=row.length->(∀ j,j<i->okAt N row j)->runK (zcQ N) (k0P N) (row.take i)=some (zf5 N row i)
 | 0,_,_=>by
  rw[WA];show some (k0P N)=some (zf5 N row 0);unfold zf5
  rw[Nat.zero_mod];rfl
 | i+1,h,ok=>by
  rw[za8 h,za9,ziv N row i (by lia) λj a=>ok j (by lia)];show zcQ N (zf5 N row i) (row.getD i 0)=_;rw[zeJ,Jf (by rw[show passE N (tsAt N row i) (row.getD i 0)=i%N.lanes from ok i (Nat.lt_succ_self _)])];unfold zf5;rw[zeH N h]
  congr 2
  congr 1
  rw[show ((i%N.lanes:Nat):Int)+1=((i%N.lanes+1:Nat):Int) from rfl,<- YA,Nat.mod_add_mod]
theorem zkh (N:Nt) {row:List Nat}{i:Nat}(h:i<row.length) (ok:∀ j,j<i->okAt N row j) (no:¬ okAt N row i):runK (zcQ N) (k0P N) (row.take (i+1))=none:=by
 rw[za8 h,za9,ziv N row i (by lia) ok];show zcQ N (zf5 N row i) (row.getD i 0)=none;rw[zeJ];exact Ja λz=>no (Int.ofNat.inj z)
theorem zj2 (N:Nt) (row:List Nat):∀ i,i<=row.length->(∀ j,j<=i->runK (zcQ N) (k0P N) (row.take j)≠none)->∀ j,j<i->okAt N row j
 | 0,_,_,j,b=>by lia
 | i+1,h,a,j,b=>by
  have ih:=zj2 N row i (by lia) λj b=>a j (by lia);by_cases z:j<i
  ·exact ih j z
  ·have:j=i:=by lia
   subst this;exact Classical.byContradiction λno=>a (j+1) (Jg _) (zkh N h ih no)
section
variable {N:Nt}
theorem zgg (N:Nt) (row:List Nat):(cntL (zL N) row).length=N.lanes:=by rw[zey];exact Yh
theorem zh3 (ok:Nt.Ok N) (row:List Nat) (a:∀ m∈row,m<N.lanes):∀ i,i<=row.length->tsAt N row i=zbf N (cntL (zL N) (row.take i))
 | 0,_=>by
  rw[WA];show zF N=zbf N (zL N);unfold zL
  rw[zg5];rfl
 | i+1,h=>by
  have b:row.getD i 0<N.lanes:=by
   rw[Jb,J6 h];exact a _ (Yr h)
  rw[zeH N h,zh3 ok row a i (by lia),za8 h,zbD];exact(ball ok false (zgg N _) b).1.symm
theorem zfg (ok:Nt.Ok N) {row:List Nat}(a:∀ m∈row,m<N.lanes) {i:Nat}(h:i<row.length):za3 N (cntL (zL N) (row.take (i+1)))=zaD (za3 N (cntL (zL N) (row.take i))) (passE N (tsAt N row i) (row.getD i 0)) 1:=by
 have b:row.getD i 0<N.lanes:=by
  rw[Jb,J6 h];exact a _ (Yr h)
 rw[zh3 ok row a i (by lia),za8 h,zbD];exact(ball ok false (zgg N _) b).2.1
theorem zky (ok:Nt.Ok N) {row:List Nat}(a:∀ m∈row,m<N.lanes) {i:Nat}(h:i<row.length):passE N (tsAt N row i) (row.getD i 0)<N.lanes:=by
 have c:row.getD i 0<N.lanes:=by
  rw[Jb,J6 h];exact a _ (Yr h)
 have b:=(ball ok false (zgg N (row.take i)) c).2.2;unfold passE;rw[zh3 ok row a i (by lia)];have:=List.idxOf_lt_length_of_mem (ok.en.mem_iff.mpr (YN.mpr b));rw[ok.en.length_eq,YG]at this;exact this
def dueE (N:Nt):Nat->List Int
 | 0=>List.replicate N.lanes 0
 | i+1=>zaD (dueE N i) (i%N.lanes) 1
theorem zcs (N:Nt):∀ i,(dueE N i).length=N.lanes
 | 0=>Yh
 | i+1=>by show (zaD _ _ _).length=_;rw[zaY,zcs N i]
theorem zeu (ok:Nt.Ok N) {row:List Nat}(a:∀ m∈row,m<N.lanes):∀ i,i<=row.length->(∀ j,j<i->okAt N row j)->za3 N (cntL (zL N) (row.take i))=dueE N i
 | 0,_,_=>by rw[WA];exact zjE N ok
 | i+1,h,b=>by
  rw[zfg ok a h,zeu ok a i (by lia) λj c=>b j (by lia),show passE N (tsAt N row i) (row.getD i 0)=i%N.lanes from b i (Nat.lt_succ_self _)];rfl
theorem zj4 {xs:List Int}{i j:Nat}(hi:i<xs.length) (c:j<xs.length) (e:zaD xs i 1=zaD xs j 1):i=j:=by
 apply Classical.byContradiction;intro ne
 have a:(zaD xs i 1).getD i 0=xs.getD i 0+1:=by
  unfold zaD;rw[Jb,List.getElem?_set_self hi];rfl
 have b:(zaD xs j 1).getD i 0=xs.getD i 0:=by
  unfold zaD;rw[Jb,List.getElem?_set_ne (λz=>ne z.symm),<- Jb]
 rw[e,b]at a;lia
theorem zlL (N:Nt) (p:Nat):(zL N).getD p 0=0:=zb7 _ _
end
theorem zlE (N:Nt):∀ (n j:Nat),j<N.lanes->(dueE N n).getD j 0=((n / N.lanes:Nat):Int)+if j<n%N.lanes then 1 else 0
 | 0,j,h=>by
  show (List.replicate N.lanes (0:Int)).getD j 0=_
  rw[Nat.zero_div,Nat.zero_mod,Ja (Nat.not_lt_zero j),zb7];rfl
 | n+1,j,h=>by
  show (zaD (dueE N n) (n%N.lanes) 1).getD j 0=_;rw[zaQ (by rw[zcs];exact h),zlE N n j h];have hm:n%N.lanes<N.lanes:=W6 _ (by lia);have a:=Nat.div_add_mod n N.lanes;by_cases z:n%N.lanes+1=N.lanes
  ·have e:n+1=N.lanes*(n / N.lanes+1)+0:=by rw[Nat.mul_add];lia
   have q:(n+1) / N.lanes=n / N.lanes+1:=by rw[e,YL,Nat.mul_div_cancel_left _ (by lia)]
   have r:(n+1)%N.lanes=0:=by rw[e,YL,Nat.mul_mod_right]
   rw[q,r,Ja (Nat.not_lt_zero j)];by_cases y:j<n%N.lanes
   ·rw[Jf y,Ja (by lia)];lia
   ·rw[Ja y,Jf (by lia)];lia
  ·have e:n+1=N.lanes*(n / N.lanes)+(n%N.lanes+1):=by lia
   have q:(n+1) / N.lanes=n / N.lanes:=by
    rw[e,Nat.mul_add_div (by lia),Nat.div_eq_of_lt (show n%N.lanes+1<N.lanes by lia),YL]
   have r:(n+1)%N.lanes=n%N.lanes+1:=by rw[e,Nat.mul_add_mod,Nat.mod_eq_of_lt (by lia)]
   rw[q,r];by_cases y:j<n%N.lanes
   ·rw[Jf y,Ja (by lia),Jf (by lia)];lia
   ·by_cases x:j=n%N.lanes
    ·rw[Ja y,Jf x.symm,Jf (by lia)];lia
    ·rw[Ja y,Ja (λt=>x t.symm),Ja (by lia)];lia
end L2
namespace L2
open PySem PySem.Spec PyProof.Rows Own Bn
theorem zl3 {a u:TS}{D:Ends}{σ:St}{H:Hp}(I:St->Hp->Prop) (key:∀ σ H,I σ H->u D σ H) (h:∀ b:Ends,(∀ σ H,I σ H->b.nx σ H)->b.rt=D.rt->a b σ H):tSeq a u D σ H:=h { D with nx:=u D } key rfl
theorem gset {i:Nat}{v:V}{σ:St}{H:Hp}{a u:TS}{D:Ends}(R:VK) (h:tSeq a u D (σ.set i (some v)) H):(λx H1=>zjv i x σ H1 ({ nx:=tSeq a u D,rt:=R }:Ends).nx) v H:=h
end L2
namespace Bn
open PySem L2 Own
def zax (total:Int) (many:Nat):List Int:=(List.range many).map λ(p:Nat)=>(total-p+many-1) / (many:Int)
theorem za6 (total:Int) (many i:Nat) (h:i<=many):(zax total many).take i=(List.range i).map λp=>(total-(p:Nat)+many-1) / (many:Int):=by
 unfold zax;rw[<- List.map_take,List.take_range,Nat.min_eq_left h]
theorem zh9 (q m r p:Int) (b:0<=r) (a:r<m) (d:0<=p) (c:p<m):(q*m+r-p+m-1) / m=q+if p<r then 1 else 0:=by
 by_cases h:p<r
 ·rw[Jf h]
  exact((Int.ediv_emod_unique (r:=r-p-1) (by lia)).mpr ⟨by rw[Int.mul_add,Int.mul_one,Int.mul_comm m q];lia,by lia,by lia⟩).1
 ·rw[Ja h]
  exact((Int.ediv_emod_unique (r:=r-p+m-1) (by lia)).mpr ⟨by rw[Int.add_zero,Int.mul_comm m q];lia,by lia,by lia⟩).1
def zcM (total:Int) (many i:Nat):Int:=total / many*(many-i)+max (total%many-i) 0
theorem zjc (total:Int) (many:Nat) (h:1<=many):zcM total many 0=total:=by
 unfold zcM;have a:=Zz total (show (many:Int)≠0 by lia);have b:(many:Int)*(total / many)+total%many=total:=Int.mul_ediv_add_emod total many;rw[Int.mul_comm]at b;simp only[Int.ofNat_zero,Int.sub_zero];lia
theorem zlV (total:Int) (many i:Nat) (hi:i<many):(total-i+many-1) / (many:Int)=total / many+if (i:Int)<total%many then 1 else 0:=by
 have a:(0:Int)<many:=by lia
 have e:total=total / many*many+total%many:=by
  have:=Int.mul_ediv_add_emod total many;rw[Int.mul_comm]at this;lia
 have z:=zh9 (total / many) many (total%many) i (Zz _ (by lia)) (ZT _ a) (by lia) (by lia);rw[<- z]
 congr 1
 lia
theorem zjd (total:Int) (many i:Nat) (hi:i<many):zcM total many i-(total-i+many-1) / (many:Int)=zcM total many (i+1):=by
 rw[zlV total many i hi];unfold zcM
 have e:total / (many:Int)*((many:Int)-(i+1:Nat))=total / many*((many:Int)-i)-total / many:=by
  have:((many:Int)-(i+1:Nat))=((many:Int)-i)-1:=by lia
  rw[this,Int.mul_sub,Int.mul_one]
 rw[e];by_cases h:(i:Int)<total%many
 ·rw[Jf h];lia
 ·rw[Ja h];lia
theorem zgu (total:Int) (many:Nat) (h:1<=many):∀ i,i<=many->((zax total many).take i).sum=total-zcM total many i
 | 0,_=>by rw[zjc total many h];simp
 | i+1,hi=>by
  have ih:=zgu total many h i (by lia);rw[za6 _ _ _ (by lia)]at ih;rw[za6 _ _ _ hi,List.range_succ,JN,List.sum_append,ih,<- zjd total many i hi];simp only[List.sum_cons,List.sum_nil,Y6,List.map_nil];lia
theorem zdF (total:Int) (many:Nat) (h:1<=many):(zax total many).sum=total:=by
 have e:=zgu total many h many (Jg _);rw[Yf (by unfold zax;simp)]at e
 have z:zcM total many many=0:=by
  unfold zcM;have b:=ZT total (show (0:Int)<many by lia);rw[Int.sub_self,Int.mul_zero];lia
 lia
theorem zas (total:Int) (many:Nat):(zax total many).length=many:=by unfold zax;simp
end Bn
namespace L2
open PySem PySem.Spec PyProof.Rows Own Bn
def laneM (N:Nt) (m n h:Nat):Nat:=if h=0 then m%(N.lanes / 2) else N.lanes / 2+n%(N.lanes / 2)
def za2 (N:Nt):KN->Nat->Option KN
 | [.inr ts,.inl m,.inl n],h=>if ((passE N ts (laneM N m.toNat n.toNat h):Nat):Int)=(m+n)%(N.lanes:Nat) then some (if h=0 then stK (zb2 N ts (laneM N m.toNat n.toNat h)) [(m+1)%(N.lanes:Nat),n] else stK (zb2 N ts (laneM N m.toNat n.toNat h)) [m,(n+1)%(N.lanes:Nat)]) else none
 | _,_=>none
def OkM (N:Nt) (k:KN):Prop:=∃ (ts:List Int) (m n:Nat),k=stK ts [(m:Nat),(n:Nat)]/\ts.length=N.forks.length/\Bits ts/\m<N.lanes/\n<N.lanes
def knot (N:Nt) (ts:List Int) (m n:Nat):KN:=stK ts [((m%N.lanes:Nat):Int),((n%N.lanes:Nat):Int)]
theorem OkM.st {N:Nt}(ok:Nt.Ok N) {k:KN}(h:OkM N k):StOk N.forks.length 2 k:=by
 obtain⟨ts,m,n,rfl,h1,b,d,c⟩:=h;refine⟨ts,[(m:Nat),(n:Nat)],rfl,h1,b,rfl,λx a=>?_⟩;have:=ok.l16;rcases Jh.mp a with z|z
 ·rw[z];lia
 ·rw[Jd.mp z];lia
section
variable {N:Nt}
theorem zd3 (ts:List Int) (m n h:Nat):za2 N (stK ts [(m:Nat),(n:Nat)]) h=if ((passE N ts (laneM N m n h):Nat):Int)=(((m:Nat):Int)+(n:Nat))%(N.lanes:Nat) then some (if h=0 then stK (zb2 N ts (laneM N m n h)) [(((m:Nat):Int)+1)%(N.lanes:Nat),(n:Nat)] else stK (zb2 N ts (laneM N m n h)) [(m:Nat),(((n:Nat):Int)+1)%(N.lanes:Nat)]) else none:=rfl
theorem zgv (ok:Nt.Ok N) {s t:KN}{h:Nat}(b:OkM N s) (e:za2 N s h=some t):OkM N t:=by
 obtain⟨ts,m,n,rfl,h1,a,d,c⟩:=b;have l1:=ok.l1;rw[zd3]at e;split at e
 ·have f:=Js e
  rw[<- f];by_cases z:h=0
  ·rw[Jf z]
   exact⟨_,(m+1)%N.lanes,n,by rw[YA];rfl,(zeX _ _ _).trans h1,zdM a,W6 _ (by lia),c⟩
  ·rw[Ja z]
   exact⟨_,m,(n+1)%N.lanes,by rw[YA];rfl,(zeX _ _ _).trans h1,zdM a,d,W6 _ (by lia)⟩
 ·cases e
theorem zgO (ev:N.lanes%2=0) (m:Nat):m%N.lanes%(N.lanes / 2)=m%(N.lanes / 2):=Nat.mod_mod_of_dvd m ⟨2,by lia⟩
theorem zji (ev:N.lanes%2=0) (m n h:Nat):laneM N (m%N.lanes) (n%N.lanes) h=laneM N m n h:=by unfold laneM;rw[zgO ev,zgO ev]
theorem zgT (l2:2<=N.lanes) (ev:N.lanes%2=0) (m n h:Nat):laneM N m n h<N.lanes:=by
 unfold laneM;have a:=W6 m (show 0<N.lanes / 2 by lia);have b:=W6 n (show 0<N.lanes / 2 by lia);split<;>lia
def zaX (N:Nt):Nat->Nat->List Nat->List Nat
 | _,_,[]=>[]
 | m,n,h::r=>laneM N m n h::zaX N (if h=0 then m+1 else m) (if h=0 then n else n+1) r
theorem zbB (N:Nt):∀ (r:List Nat) (m n:Nat),(zaX N m n r).length=r.length
 | [],_,_=>rfl
 | h::r,m,n=>by show _+1=_+1;rw[zbB N r]
theorem zdi (l2:2<=N.lanes) (ev:N.lanes%2=0):∀ (r:List Nat) (m n:Nat),∀ x∈zaX N m n r,x<N.lanes
 | [],_,_,x,a=>absurd a Je
 | h::r,m,n,x,a=>by
  rcases Jh.mp a with z|z
  ·rw[z];exact zgT l2 ev m n h
  ·exact zdi l2 ev r _ _ x z
theorem zce (l2:2<=N.lanes) (ev:N.lanes%2=0):∀ (r:List Nat) (ts:List Int) (m n:Nat),(runK (za2 N) (knot N ts m n) r).isSome=(runK (zcQ N) (stK ts [(((m+n)%N.lanes:Nat):Int)]) (zaX N m n r)).isSome
 | [],_,_,_=>rfl
 | h::r,ts,m,n=>by
  show ((za2 N (knot N ts m n) h).bind λt=>runK (za2 N) t r).isSome=((zcQ N (stK ts [(((m+n)%N.lanes:Nat):Int)]) (laneM N m n h)).bind λt=>runK (zcQ N) t _).isSome;have a:zcQ N (stK ts [(((m+n)%N.lanes:Nat):Int)]) (laneM N m n h)=if ((passE N ts (laneM N m n h):Nat):Int)=(((m+n)%N.lanes:Nat):Int) then some (stK (zb2 N ts (laneM N m n h)) [((((m+n)%N.lanes:Nat):Int)+1)%(N.lanes:Nat)]) else none:=rfl
  have b:za2 N (knot N ts m n) h=if ((passE N ts (laneM N m n h):Nat):Int)=(((m+n)%N.lanes:Nat):Int) then some (if h=0 then knot N (zb2 N ts (laneM N m n h)) (m+1) n else knot N (zb2 N ts (laneM N m n h)) m (n+1)) else none:=by
   show za2 N (stK ts [((m%N.lanes:Nat):Int),((n%N.lanes:Nat):Int)]) h=_;rw[zd3,zji ev]
   have q:(((m%N.lanes:Nat):Int)+((n%N.lanes:Nat):Int))%(N.lanes:Nat)=(((m+n)%N.lanes:Nat):Int):=by
    rw[<- Int.natCast_add,<- YA,<- Nat.add_mod]
   have s:∀ k:Nat,(((k%N.lanes:Nat):Int)+1)%(N.lanes:Nat)=(((k+1)%N.lanes:Nat):Int):=λk=>by
    rw[show ((k%N.lanes:Nat):Int)+1=((k%N.lanes+1:Nat):Int) from rfl,<- YA,Nat.mod_add_mod]
   rw[q,s,s];rfl
  rw[a,b];by_cases z:((passE N ts (laneM N m n h):Nat):Int)=(((m+n)%N.lanes:Nat):Int)
  ·rw[Jf z,Jf z]
   have s:((((m+n)%N.lanes:Nat):Int)+1)%(N.lanes:Nat)=(((m+n+1)%N.lanes:Nat):Int):=by
    rw[show (((m+n)%N.lanes:Nat):Int)+1=(((m+n)%N.lanes+1:Nat):Int) from rfl,<- YA,Nat.mod_add_mod]
   rw[s];by_cases y:h=0
   ·rw[Jf y,Jf y,Jf y]
    have ih:=zce l2 ev r (zb2 N ts (laneM N m n h)) (m+1) n;rw[show m+1+n=m+n+1 by lia]at ih;exact ih
   ·rw[Ja y,Ja y,Ja y]
    exact zce l2 ev r (zb2 N ts (laneM N m n h)) m (n+1)
  ·rw[Ja z,Ja z];rfl
def cnt2 (m n:Nat) (r:List Nat):Nat × Nat:=r.foldl (λp h=>if h=0 then (p.1+1,p.2) else (p.1,p.2+1)) (m,n)
theorem zfj (m n h:Nat) (r:List Nat):cnt2 m n (h::r)=if h=0 then cnt2 (m+1) n r else cnt2 m (n+1) r:=by
 show List.foldl _ (if h=0 then (m+1,n) else (m,n+1)) r=_;split<;>rfl
theorem zcb (a:1<=N.lanes) (n:Nat):zax (n:Nat) N.lanes=dueE N n:=by
 refine zbZ (by rw[zas,zcs]) λi hi=>?_;rw[zas]at hi;rw[zlE N n i hi];unfold zax;rw[Jb,JL,J6 (by rw[YG];exact hi),List.getElem_range];show (((n:Nat):Int)-i+N.lanes-1) / (N.lanes:Int)=_;rw[zlV _ _ _ hi,Int.natCast_ediv]
 congr 1
 by_cases z:i<n%N.lanes
 ·rw[Jf z,Jf (by rw[<- YA];lia)]
 ·rw[Ja z,Ja (by rw[<- YA];lia)]
theorem zkd {t w i:Nat}(h:i<w):(zax (t:Nat) w).getD i 0=((t / w:Nat):Int)+if i<t%w then 1 else 0:=by
 unfold zax;rw[Jb,JL,J6 (by rw[YG];exact h),List.getElem_range];show (((t:Nat):Int)-i+w-1) / (w:Int)=_;rw[zlV _ _ _ h,Int.natCast_ediv]
 congr 1
 by_cases z:i<t%w
 ·rw[Jf z,Jf (by rw[<- YA];lia)]
 ·rw[Ja z,Ja (by rw[<- YA];lia)]
theorem zdE {t w:Nat}(a:1<=w):zax ((t+1:Nat):Int) w=zaD (zax (t:Nat) w) (t%w) 1:=by
 have e:=zcb (N:=⟨w,[],[]⟩) a (t+1);have f:=zcb (N:=⟨w,[],[]⟩) a t;show zax ((t+1:Nat):Int) (⟨w,[],[]⟩:Nt).lanes=zaD (zax (t:Nat) (⟨w,[],[]⟩:Nt).lanes) _ 1;rw[e,f];rfl
def zcI (N:Nt) (m n:Nat):List Int:=zax (m:Nat) (N.lanes / 2)++zax (n:Nat) (N.lanes / 2)
theorem zgW (ev:N.lanes%2=0) (m n:Nat):(zcI N m n).length=N.lanes:=by unfold zcI;rw[Jn,zas,zas];lia
theorem zju (l2:2<=N.lanes) (ev:N.lanes%2=0) (m n h:Nat):oneM (zcI N m n) (laneM N m n h)=if h=0 then zcI N (m+1) n else zcI N m (n+1):=by
 unfold oneM laneM zcI;have lm:=zas (m:Nat) (N.lanes / 2);have ln:=zas (n:Nat) (N.lanes / 2);have am:=W6 m (show 0<N.lanes / 2 by lia);have an:=W6 n (show 0<N.lanes / 2 by lia);by_cases z:h=0
 ·rw[Jf z,Jf z,zdE (by lia)]
  unfold zaD;rw[List.set_append_left _ _ (by lia),Jb,Yj (by lia),<- Jb]
 ·rw[Ja z,Ja z,zdE (t:=n) (by lia)]
  unfold zaD;rw[List.set_append_right _ _ (by lia),Jb,Yg (by lia),<- Jb,lm,Nat.add_sub_cancel_left]
theorem zck (l2:2<=N.lanes) (ev:N.lanes%2=0):∀ (r:List Nat) (m n:Nat),cntL (zcI N m n) (zaX N m n r)=zcI N (cnt2 m n r).1 (cnt2 m n r).2
 | [],_,_=>rfl
 | h::r,m,n=>by
  show cntL (oneM (zcI N m n) (laneM N m n h)) (zaX N (if h=0 then m+1 else m) (if h=0 then n else n+1) r)=_;rw[zju l2 ev];rw[zfj];by_cases z:h=0
  ·rw[Jf z,Jf z,Jf z,Jf z];exact zck l2 ev r (m+1) n
  ·rw[Ja z,Ja z,Ja z,Ja z];exact zck l2 ev r m (n+1)
theorem zfc (ev:N.lanes%2=0):zcI N 0 0=zL N:=by
 refine zbZ (by rw[zgW ev];exact Yh.symm) λi hi=>?_;rw[zgW ev]at hi;rw[zlL];unfold zcI;have s:∀ j,j<N.lanes / 2->(zax ((0:Nat):Int) (N.lanes / 2)).getD j 0=0:=λj a=>by rw[zkd a,Nat.zero_div,Nat.zero_mod,Ja (Nat.not_lt_zero _)];rfl
 have ln:=zas ((0:Nat):Int) (N.lanes / 2);by_cases z:i<N.lanes / 2
 ·rw[Jb,Yj (by lia),<- Jb];exact s i z
 ·rw[Jb,Yg (by lia),<- Jb,ln];exact s _ (by lia)
theorem zct:∀ (r:List Nat) (m n:Nat),(cnt2 m n r).1+(cnt2 m n r).2=m+n+r.length
 | [],_,_=>rfl
 | h::r,m,n=>by
  rw[zfj,JW];split
  ·rw[zct r];lia
  ·rw[zct r];lia
def rowM (m n:Nat):List Nat:=List.replicate m 0++List.replicate n 1
theorem zfi:∀ (k m n:Nat),cnt2 m n (List.replicate k 0)=(m+k,n)
 | 0,_,_=>rfl
 | k+1,m,n=>by
  rw[Y5];show cnt2 (m+1) n (List.replicate k 0)=_;rw[zfi k,show m+1+k=m+(k+1) by lia]
theorem zfh:∀ (k m n:Nat),cnt2 m n (List.replicate k 1)=(m,n+k)
 | 0,_,_=>rfl
 | k+1,m,n=>by
  rw[Y5];show cnt2 m (n+1) (List.replicate k 1)=_;rw[zfh k,show n+1+k=n+(k+1) by lia]
theorem zgx (m n:Nat):cnt2 0 0 (rowM m n)=(m,n):=by
 unfold rowM cnt2;rw[Z6];have e:=zfi m 0 0;unfold cnt2 at e;rw[e,Yw];have f:=zfh n m 0;unfold cnt2 at f;rw[f,Yw]
theorem zeh (m n:Nat):(rowM m n).length=m+n:=by unfold rowM;rw[Jn,Yh,Yh]
theorem zbL (m n:Nat):Over [0,1] (rowM m n):=λx a=>by
 unfold rowM at a;rcases Jx.mp a with z|z
 ·rw[WE z];exact .head _
 ·rw[WE z];exact .tail _ (.head _)
theorem zex:∀ (r:List Nat),Over [0,1] r->∀ m n:Nat,cntL [((m:Nat):Int),((n:Nat):Int)] r=[(((cnt2 m n r).1:Nat):Int),(((cnt2 m n r).2:Nat):Int)]
 | [],_,_,_=>rfl
 | h::r,a,m,n=>by
  have ih:=zex r λx b=>a x (.tail _ b);rcases Jh.mp (a h (.head _)) with z|z
  ·subst z
   exact ih (m+1) n
  ·rw[Jd.mp z]
   exact ih m (n+1)
def k0M (N:Nt):KN:=stK (zF N) [0,0]
theorem zlC:knot N (zF N) 0 0=k0M N:=by unfold knot k0M;rw[Nat.zero_mod];rfl
theorem zhf (ok:N.Ok) (l2:2<=N.lanes) (ev:N.lanes%2=0) {r:List Nat}(h:∀ j,j<=r.length->runK (za2 N) (k0M N) (r.take j)≠none):za3 N (zcI N (cnt2 0 0 r).1 (cnt2 0 0 r).2)=zax ((((cnt2 0 0 r).1+(cnt2 0 0 r).2:Nat)):Int) N.lanes:=by
 have take:∀ (r:List Nat) (m n j:Nat),(zaX N m n r).take j=zaX N m n (r.take j):=by
  intro r
  induction r with
  | nil=>intro m n j;rw[List.take_nil];exact List.take_nil
  | cons a r ih =>
   intro m n j
   cases j with
   | zero=>rfl
   | succ j=>show _::(zaX N _ _ r).take j=_;rw[ih];rfl
 have lt:=zdi l2 ev r 0 0
 have b:=zj2 N (zaX N 0 0 r) r.length (by rw[zbB];exact Jg _) λj d z=>by
  have q:=zce l2 ev (r.take j) (zF N) 0 0;rw[zlC,YL,Nat.zero_mod]at q;rw[take]at z;have c:runK (zcQ N) (stK (zF N) [((0:Nat):Int)]) (zaX N 0 0 (r.take j))=none:=z;rw[c]at q
  cases e:runK (za2 N) (k0M N) (r.take j) with
  | none=>exact h j d e
  | some k=>rw[e]at q;cases q
 have e:=zeu ok lt r.length (by rw[zbB];exact Jg _) b;rw[Yf (by rw[zbB];exact Jg _),<- zfc ev,zck l2 ev]at e;rw[e,zct,YL,Yw,zcb (by lia)]
def Merg (N:Nt) (m n:Nat):Prop:=za3 N (zcI N m n)=zax (((m+n:Nat)):Int) N.lanes
theorem zep (ok:N.Ok) (l2:2<=N.lanes) (ev:N.lanes%2=0) {m n:Nat}(h:∀ j,j<=m+n->runK (za2 N) (k0M N) ((rowM m n).take j)≠none):Merg N m n:=by
 have q:=zhf ok l2 ev (r:=rowM m n) λj a=>h j (by rw[zeh]at a;exact a);rw[zgx]at q;exact q
theorem zeI {r:List Nat}(h:Over [0,1] r) (j:Nat):Over [0,1] (r.take j):=λx a=>h x (Wc a)
theorem zi4 (ok:N.Ok) (l2:2<=N.lanes) (ev:N.lanes%2=0) {ks:List KN}(a:Shut (za2 N) [0,1] (k0M N) ks) (m n:Nat):Merg N m n :=
 zep ok l2 ev λj _=>by
  obtain⟨s,_,e⟩:=a.run ((rowM m n).take j) a.fst (zeI (zbL m n) j);rw[e];exact λz=>by cases z
section
variable {t:Nat}{c:List Int}
theorem zgj (B:Broke (za2 N) [0,1] (k0M N) [0,0] t c) {r:List Nat}(a:Over [0,1] r) {j:Nat}(b:j<=t):runK (za2 N) (k0M N) (r.take j)≠none:=by
 obtain⟨s,e⟩:=B.few (r.take j) (by rw[JE];lia) (zeI a j);rw[e];exact λz=>by cases z
theorem zhw (ok:N.Ok) (l2:2<=N.lanes) (ev:N.lanes%2=0) (B:Broke (za2 N) [0,1] (k0M N) [0,0] t c) {m n:Nat}(h:m+n<=t):Merg N m n :=
 zep ok l2 ev λj a=>zgj B (zbL m n) (by lia)
theorem zna (B:Broke (za2 N) [0,1] (k0M N) [0,0] t c):∃ a b:Nat,c=[((a:Nat):Int),((b:Nat):Int)]/\a+b=t+1:=by
 obtain⟨r,h,h1,f,d,_⟩:=B.ex;have e:=zex (r++[h]) f 0 0;have l:=zct (r++[h]) 0 0;refine⟨_,_,d.symm.trans e,?_⟩;rw[l,Jn,h1];show 0+0+(t+1)=_;lia
theorem zi5 (ok:N.Ok) (l2:2<=N.lanes) (ev:N.lanes%2=0) {a b:Nat}(B:Broke (za2 N) [0,1] (k0M N) [0,0] t [((a:Nat):Int),((b:Nat):Int)]) {m n:Nat}(h:m+n=t+1) (lt:m<a):Merg N m n :=
 zep ok l2 ev λj d=>by
  by_cases z:j<=t
  ·exact zgj B (zbL m n) z
  ·rw[Yf (by rw[zeh];lia)]
   intro no;have le:=B.lst (rowM m n) (by rw[zeh];exact h) (zbL m n) no;have e:=zex (rowM m n) (zbL m n) 0 0;rw[zgx]at e;have c:cntL [0,0] (rowM m n)=[((m:Nat):Int),((n:Nat):Int)]:=e;rw[c]at le;refine le ?_;show (compare ((a:Nat):Int) ((m:Nat):Int)).then _=.gt;rw[YC.mpr (by lia)];rfl
theorem zkW (ok:N.Ok) (l2:2<=N.lanes) (ev:N.lanes%2=0) {a b:Nat}(B:Broke (za2 N) [0,1] (k0M N) [0,0] t [((a:Nat):Int),((b:Nat):Int)]):¬ Merg N a b:=by
 intro mg;obtain⟨r,h,h1,l,u,s⟩:=B.ex;have e:=zex (r++[h]) l 0 0;have w:[(((cnt2 0 0 (r++[h])).1:Nat):Int),(((cnt2 0 0 (r++[h])).2:Nat):Int)]=[((a:Nat):Int),((b:Nat):Int)]:=e.symm.trans u;injection w with v e2;injection e2 with e2 _;have p:(cnt2 0 0 (r++[h])).1=a:=Int.ofNat.inj v;have o:(cnt2 0 0 (r++[h])).2=b:=Int.ofNat.inj e2;have d:(r++[h]).length=t+1:=by rw[Jn,h1];rfl
 have lt:=zdi l2 ev (r++[h]) 0 0;have x:(zaX N 0 0 (r++[h])).length=t+1:=by rw[zbB,d]
 have take:∀ (r:List Nat) (m n j:Nat),(zaX N m n r).take j=zaX N m n (r.take j):=by
  intro r
  induction r with
  | nil=>intro m n j;rw[List.take_nil];exact List.take_nil
  | cons a r ih =>
   intro m n j
   cases j with
   | zero=>rfl
   | succ j=>show _::(zaX N _ _ r).take j=_;rw[ih];rfl
 have run:∀ r:List Nat,(runK (za2 N) (k0M N) r).isSome=(runK (zcQ N) (k0P N) (zaX N 0 0 r)).isSome:=λr=>by
  have q:=zce l2 ev r (zF N) 0 0;rw[zlC,YL,Nat.zero_mod]at q;exact q
 have c:=zj2 N (zaX N 0 0 (r++[h])) t (by lia) λj g z=>by
  have q:=run ((r++[h]).take j);rw[<- take,z]at q
  cases e:runK (za2 N) (k0M N) ((r++[h]).take j) with
  | none=>exact zgj B l g e
  | some k=>rw[e]at q;cases q
 have no:¬ okAt N (zaX N 0 0 (r++[h])) t:=λz=>by
  have f:=ziv N (zaX N 0 0 (r++[h])) (t+1) (by lia) λj g=>by
   by_cases y:j<t
   ·exact c j y
   ·rw[show j=t by lia];exact z
  rw[Yf (by lia)]at f;have q:=run (r++[h]);rw[s,f]at q;cases q
 have st:=zfg ok lt (i:=t) (by lia);rw[zeu ok lt t (by lia) c,Yf (by lia),<- zfc ev,zck l2 ev,p,o]at st;unfold Merg at mg;rw[mg,show a+b=t+1 by rw[<- p,<- o,zct,d];lia,zcb (by lia)]at st;have st':zaD (dueE N t) (t%N.lanes) 1=zaD (dueE N t) (passE N (tsAt N (zaX N 0 0 (r++[h])) t) ((zaX N 0 0 (r++[h])).getD t 0)) 1:=st;have q:=zj4 (by rw[zcs];exact W6 _ (by lia)) (by rw[zcs];exact zky ok lt (by lia)) st';exact no q.symm
end
end
end L2
namespace K64
open PySem L2 Own Bn
abbrev zfO:Stmt:=top 14
abbrev zfP:Stmt:=top 25
abbrev zis:Stmt:=top 26
abbrev zeN:Stmt:=top 23
theorem zkY (n:Nat):List.replicate n (V.int 0)=(List.replicate n (0:Int)).map V.int:=(List.map_replicate).symm
theorem zhb {ls:List LvL}{lv:LvL}(h:lv∈ls):lv.length<=(ls.map List.length).sum:=by
 induction ls with
 | nil=>cases h
 | cons a ls ih =>
  show lv.length<=a.length+(ls.map List.length).sum;rcases Jh.mp h with rfl|z
  ·exact Nat.le_add_right _ _
  ·exact JX (ih z) (Nat.le_add_left _ _)
def zea:Sp:=λvs H Q _=>∃ r fr er ps N,vs=[.ref r]/\Nt.Ok N/\NetAt H r fr er ps N/\∀ p H',Same H H'->NKey H' (k0M N) p->Q (.ref p) H'
def zd7:Sp:=λvs H Q _=>∃ r fr er ps N b k,∃ h:Nat,vs=[.ref r,.ref b,.int (h:Nat)]/\Nt.Ok N/\N.lanes%2=0/\NetAt H r fr er ps N/\NKey H k b/\OkM N k /\
 (∀ a,Same H a->za2 N k h=none->Q .non a)/\(∀ a c t,Same H a->za2 N k h=some t->NKey a t c->Q (.ref c) a)
def zcE:LSpc:=λvals vs H Q E=>∃ r b,∃ h:Nat,vals=[.ref r]/\vs=[.ref b,.int (h:Nat)]/\zd7 [.ref r,.ref b,.int (h:Nat)] H Q E
theorem zk1 {H:Hp}{r fr er:Addr}{ps:List V}{N:Nt}{moves:List Nat}(ok:Nt.Ok N) (ev:N.lanes%2=0) (na:NetAt H r fr er ps N):Led zcE [.ref r] (za2 N) (OkM N) moves H:=λH1 s b m Q t os _ d c a =>
 ⟨r,b,m,rfl,rfl,r,fr,er,ps,N,b,s,m,rfl,ok,ev,na.tups t,d,os,c,a⟩
section
variable {P:Program}{w:World}{K:PySem.W.Frag}{mg:Str->Option Value}{base:Heap}
theorem scFt:FnScope ["net"] ["net"] (zaj zfO):=by trivial
theorem ziQ {f:Addr}{fd:FuncData}(F:Fun K "first_turns" "first_turns" zfO f fd) (G:Mgs mg):FnOk P w K mg base CX0 1 f fd ["net"] zd9:=by
 refine F.ok scFt (λvs H Q E h=>?_) (λcdv A outer s H vs Q E c h=>?_)
 ·obtain⟨r,fr,er,ps,N,rfl,_⟩:=h
  rfl
 obtain⟨r,fr,er,ps,N,rfl,ok,na,k⟩:=h;refine⟨_,(@zai _ _ _ (@zap _ _ _ _ (@zao _ _ _ _ _ _ _ _ zmq (@zaB _ _ _ _ _ (@zaa _ _ _ _ _ zah zad (by rfl))) (@zau _ _ _ _ _ _ _ _ _ zay (by rfl) G.len YT (@zaa _ _ _ _ _ (@zaP _ _ _ _ _ _ _ zbc (@qv _ 0 _ _ (by trivial)) zah (λ_ _=>rfl)) zad (by rfl)) (by decide) (by decide) (by rfl) (by rfl))))),?_⟩;refine⟨by show 1<=sizeLine;decide,λt b=>?_⟩;have s1:=zac b (.tup [.int 0]);have a:=na.prs.len;have fm:=ok.fm;refine⟨_,rfl,r,_,_,_,rfl,rfl,SqT.of (s1 _ _ na.net),rfl,fr,ps,rfl,.inr (SqT.of (s1 _ _ na.forks)),t,_,ps.length,rfl,rfl,zab,by lia,λp H' s' h'=>k p H' (s1.trans s') ?_⟩;rw[h',zkY,a]
theorem scFk:FnScope ["net"] ["net"] (zaj zfP):=by trivial
theorem ziR {f d:Addr}{fd dT:FuncData}(F:Fun K "first_knot" "first_knot" zfP f fd) (a:Use P w K mg base "first_turns" ["net"] 1 zd9 d dT):FnOk P w K mg base CX0 2 f fd ["net"] zea:=by
 refine F.ok scFk (λvs H Q E h=>?_) (λcdv A outer s H vs Q E b h=>?_)
 ·obtain⟨r,fr,er,ps,N,rfl,_⟩:=h
  rfl
 obtain⟨r,fr,er,ps,N,rfl,ok,na,k⟩:=h;refine⟨_,(@zai _ _ _ (@zap _ _ _ _ (@zaB _ _ _ _ _ (@zaa _ _ _ _ _ (@zal _ _ _ _ _ _ _ _ _ _ _ _ _ _ _ _ a.ok b (by rfl) a.m a.kp a.b .nil zaw (@zaa _ _ _ _ _ (@qv _ 0 _ _ (by trivial)) zad (by rfl)) (by decide) (by rfl) (by rfl)) (@zaa _ _ _ _ _ zah (@zaa _ _ _ _ _ zah zad (by rfl)) (by rfl)) (by rfl))))),?_⟩;refine⟨_,rfl,r,fr,er,ps,N,rfl,ok,na,λt H1 s1 h1=>⟨by show 3<=sizeLine;decide,λp c=>?_⟩⟩;have s2:=zac c (.tup [.ref t,.int 0,.int 0]);exact k p _ (s1.trans s2) (znc (is:=[0,0]) (t:=t) zab (s2 _ _ h1))
theorem scKb:FnScope ["net","knot","half","turns","m","n","lanes","width","lane","onward","end"] ["net","knot","half"] (zaj zis):=by trivial
theorem zkH {f I:Addr}{fd J:FuncData}(F:Fun K "knot_behind" "knot_behind" zis f fd) (g:Use P w K mg base "passed" ["net","turns","lane"] 3 (zic false) I J):FnOk P w K mg base CX0 4 f fd ["net","knot","half"] zd7:=by
 refine F.ok scKb (λvs H Q E h=>?_) (λcdv A outer s H vs Q E C h=>?_)
 ·obtain⟨r,fr,er,ps,N,b,k,h,rfl,_⟩:=h
  rfl
 obtain⟨r,fr,er,ps,N,b,k,h,rfl,ok,ev,na,x,⟨ts,m,n,rfl,tl,bits,L,nl⟩,v,l⟩:=h;refine⟨_,(@zaf _ _ _ _ _ (@zaT _ _ _ _ _ _ (@qv _ 1 _ _ (by trivial)) (@zaV _ _ _ _ _ _ rfl (@zam _ _ _ _ _ (@zak _ _ 3 _ scKb.nd rfl (.inl rfl) (by trivial)) (@zam _ _ _ _ _ (@zak _ _ 4 _ scKb.nd rfl (.inl rfl) (by trivial)) (@zam _ _ _ _ _ (@zak _ _ 5 _ scKb.nd rfl (.inl rfl) (by trivial)) zaF (by rfl)) (by rfl)) (by rfl)) (by rfl) (by rfl)) (by rfl) (by rfl) (by rfl)) (@zaf _ _ _ _ _ (@zaq _ _ 6 _ _ _ _ scKb.nd rfl (.inl rfl) (@zaP _ _ _ _ _ _ _ zbc (@qv _ 0 _ _ (by trivial)) zah (λ_ _=>rfl)) (by rfl) (by trivial)) (@zaf _ _ _ _ _ (@zaq _ _ 7 _ _ _ _ scKb.nd rfl (.inl rfl) (@zao _ _ _ _ _ _ _ _ zbi (@qv _ 6 _ _ (by trivial)) zah) (by rfl) (by trivial)) (@zaf _ _ _ _ _ (@zaq _ _ 8 _ _ _ _ scKb.nd rfl (.inl rfl) (@zgD _ _ _ _ _ _ _ _ (@zaE _ _ _ _ _ _ _ _ zen (@qv _ 2 _ _ (by trivial)) zah (zaR _)) (@zao _ _ _ _ _ _ _ _ zbh (@qv _ 4 _ _ (by trivial)) (@qv _ 7 _ _ (by trivial))) (@zao _ _ _ _ _ _ _ _ zaJ (@qv _ 7 _ _ (by trivial)) (@zao _ _ _ _ _ _ _ _ zbh (@qv _ 5 _ _ (by trivial)) (@qv _ 7 _ _ (by trivial))))) (by rfl) (by trivial)) (@zaf _ _ _ _ _ (@zaT _ _ _ _ _ _ (@zal _ _ _ _ _ _ _ _ _ _ _ _ _ _ _ _ g.ok C (by rfl) g.m g.kp g.b .nil zaw (@zaa _ _ _ _ _ (@qv _ 0 _ _ (by trivial)) (@zaa _ _ _ _ _ (@qv _ 3 _ _ (by trivial)) (@zaa _ _ _ _ _ (@qv _ 8 _ _ (by trivial)) zad (by rfl)) (by rfl)) (by rfl)) (by decide) (by rfl) (by rfl)) (@zaV _ _ _ _ _ _ rfl (@zam _ _ _ _ _ (@zak _ _ 9 _ scKb.nd rfl (.inl rfl) (by trivial)) (@zam _ _ _ _ _ (@zak _ _ 10 _ scKb.nd rfl (.inl rfl) (by trivial)) zaF (by rfl)) (by rfl)) (by rfl) (by rfl)) (by rfl) (by rfl) (by rfl)) (@zaf _ _ _ _ _ (@zbw _ _ _ _ _ _ _ _ (@zaE _ _ _ _ _ _ _ _ zmr (@qv _ 10 _ _ (by trivial)) (@zao _ _ _ _ _ _ _ _ zbh (@zao _ _ _ _ _ _ _ _ zaJ (@qv _ 4 _ _ (by trivial)) (@qv _ 5 _ _ (by trivial))) (@qv _ 6 _ _ (by trivial))) (zaR _)) (@zai _ _ _ (@zap _ _ _ _ ziD)) zaI) (@zaf _ _ _ _ _ (@zbw _ _ _ _ _ _ _ _ (@zaE _ _ _ _ _ _ _ _ zen (@qv _ 2 _ _ (by trivial)) zah (zaR _)) (@zai _ _ _ (@zap _ _ _ _ (@zaB _ _ _ _ _ (@zaa _ _ _ _ _ (@qv _ 9 _ _ (by trivial)) (@zaa _ _ _ _ _ (@zao _ _ _ _ _ _ _ _ zbh (@zao _ _ _ _ _ _ _ _ zaJ (@qv _ 4 _ _ (by trivial)) zah) (@qv _ 6 _ _ (by trivial))) (@zaa _ _ _ _ _ (@qv _ 5 _ _ (by trivial)) zad (by rfl)) (by rfl)) (by rfl))))) zaI) (@zai _ _ _ (@zap _ _ _ _ (@zaB _ _ _ _ _ (@zaa _ _ _ _ _ (@qv _ 9 _ _ (by trivial)) (@zaa _ _ _ _ _ (@qv _ 4 _ _ (by trivial)) (@zaa _ _ _ _ _ (@zao _ _ _ _ _ _ _ _ zbh (@zao _ _ _ _ _ _ _ _ zaJ (@qv _ 5 _ _ (by trivial)) zah) (@qv _ 6 _ _ (by trivial))) zad (by rfl)) (by rfl)) (by rfl)))))))))))),?_⟩;obtain⟨t,hb,B⟩:=zia x;have l1:=ok.l1;have l2:2<=N.lanes:=by lia
 have M:((N.lanes:Nat):Int) / 2=((N.lanes / 2:Nat):Int):=rfl;refine⟨_,rfl,b,_,rfl,SqT.of hb,rfl,_,_,rfl,_,_,rfl,_,_,rfl,rfl,?_⟩;refine⟨_,rfl,r,_,_,_,rfl,rfl,SqT.of na.net,rfl,?_⟩;refine⟨_,rfl,_,_,rfl,rfl,⟨by decide,by decide⟩,?_⟩;refine gset Q ?_;refine zl3 (λσ H'=>(∃ j v10,σ=[some (.ref r),some (.ref b),some (.int (h:Nat)),some (.ref t),some (.int (m:Nat)),some (.int (n:Nat)),some (.int (N.lanes:Nat)),some (.int ((N.lanes / 2:Nat):Int)),some (.int ((laneM N m n h:Nat):Int)),j,v10])/\H'=H) ?_ λD d _=>?_
 rotate_left
 ·have o:(decide (V.int ((h:Nat):Int)=V.int 0)=true)↔h=0:=⟨λz=>by have:=V.int.inj (ZY z);lia,λz=>by rw[z];exact JG rfl⟩
  refine⟨_,rfl,rfl,_,rfl,ite2 (λy=>?_) (λy=>?_)⟩
  ·refine⟨_,rfl,_,rfl,_,_,rfl,rfl,by show (0:Int)<((N.lanes / 2:Nat):Int);lia,d _ _ ⟨⟨none,none,?_⟩,rfl⟩⟩
   unfold laneM;rw[Jf (o.mp y),YA];rfl
  ·refine⟨_,rfl,_,rfl,_,rfl,_,_,rfl,rfl,by show (0:Int)<((N.lanes / 2:Nat):Int);lia,_,_,rfl,rfl,d _ _ ⟨⟨none,none,?_⟩,rfl⟩⟩
   unfold laneM;rw[Ja (λz=>y (o.mpr z)),Int.natCast_add,YA];rfl
 rintro σ H' ⟨⟨j,v10,rfl⟩,u⟩;rw[u];clear u;refine⟨_,rfl,_,rfl,_,rfl,r,fr,er,ps,N,t,ts,laneM N m n h,rfl,ok,na,B,tl,bits,zgT l2 ev m n h,λp a H1 s1 G e=>?_⟩;refine⟨p,_,rfl,SqT.of G,rfl,_,_,rfl,_,_,rfl,rfl,?_⟩;have st:=zd3 (N:=N) ts m n h;refine⟨_,rfl,_,rfl,_,rfl,_,_,rfl,rfl,_,rfl,_,_,rfl,rfl,by show (0:Int)<((N.lanes:Nat):Int);lia,rfl,?_⟩;by_cases c:((passE N ts (laneM N m n h):Nat):Int)=(((m:Nat):Int)+(n:Nat))%(N.lanes:Nat)
 ·rw[Jf c]at st
  refine⟨false,?_,iteF ?_⟩
  ·show V.bl (!decide (V.int ((passE N ts (laneM N m n h):Nat):Int)=V.int ((((m:Nat):Int)+(n:Nat))%(N.lanes:Nat))))=V.bl false
   rw[c,JG rfl];rfl
  refine⟨_,rfl,rfl,?_⟩;by_cases z:h=0
  ·rw[Jf z]at st
   refine⟨true,by rw[z];rfl,iteT ⟨_,rfl,_,rfl,_,_,rfl,rfl,_,rfl,_,_,rfl,rfl,by show (0:Int)<((N.lanes:Nat):Int);lia,_,rfl,by show 3<=sizeLine;decide,λq i=>?_⟩⟩;have s2:=zac i (.tup [.ref a,.int ((((m:Nat):Int)+1)%(N.lanes:Nat)),.int (n:Nat)]);exact l _ q _ (s1.trans s2) st (znc (is:=[(((m:Nat):Int)+1)%(N.lanes:Nat),((n:Nat):Int)]) (t:=a) zab (s2 _ _ e))
  ·rw[Ja z]at st
   refine⟨false,JR V.bl (Jv λy=>z (by have:=V.int.inj y;lia)),iteF ⟨_,rfl,_,rfl,_,rfl,_,_,rfl,rfl,_,rfl,_,_,rfl,rfl,by show (0:Int)<((N.lanes:Nat):Int);lia,by show 3<=sizeLine;decide,λq i=>?_⟩⟩;have s2:=zac i (.tup [.ref a,.int (m:Nat),.int ((((n:Nat):Int)+1)%(N.lanes:Nat))]);exact l _ q _ (s1.trans s2) st (znc (is:=[((m:Nat):Int),(((n:Nat):Int)+1)%(N.lanes:Nat)]) (t:=a) zab (s2 _ _ e))
 ·rw[Ja c]at st
  refine⟨true,?_,iteT (v _ s1 st)⟩;show V.bl (!decide (V.int ((passE N ts (laneM N m n h):Nat):Int)=V.int ((((m:Nat):Int)+(n:Nat))%(N.lanes:Nat))))=V.bl true;rw[Jv (λz=>c (V.int.inj z))];rfl
theorem atN {H:Hp}{a:Addr}(_:H a=none) (o:HO):L2.upd H a o a=some o:=zab
def zox (q:Str):Stmt->Lam
 | .Assign _ (.Call _ (_::_::_::.Lambda p b s _::_) _ _) _=>⟨p,b,s,q⟩
 | _=>⟨⟨[],[],none,[],[],none,[]⟩,.Name "" ⟨0,0,0,0⟩,zaj zeN,q⟩
def lamM (q:Str):Lam:=zox q ((zbb zeN).getD 0 (.Pass ⟨0,0,0,0⟩))
theorem znh {us:List Value}(h:us.length=2):∃ u v,us=[u,v]:=by
 match us,h with
 | [u,v],_=>exact⟨u,v,rfl⟩
theorem zmP {l:List (Str × NameKind)}{x:Str}{k:NameKind}(h:l.lookup x=some k):(x,k)∈l:=by
 obtain⟨a,c,e,_⟩:=List.lookup_eq_some_iff.mp h;rw[e];exact Jx.mpr (.inr (.head _))
theorem scLM:LamScope ["knot","half"] ["net"] (lamM "").scope:=⟨rfl,rfl,rfl,by decide +kernel,by decide +kernel,by decide +kernel,by decide +kernel,λx a=>(show ∀ y∈(lamM "").scope.names,y.2=.free->y.1∈[("net":Str)] from by decide +kernel) _ (zmP a) rfl⟩
theorem zk7 (q:Str) {f:Addr}{fd:FuncData}(a:Use P w K mg base "knot_behind" ["net","knot","half"] 4 zd7 f fd):LamQ CX0 P w K mg base 4 (lamM q) ["net"] ["knot","half"] zcE:=by
 refine⟨scLM,λvals vs H Q E h=>?_,λcl us e pm cdv ct=>by obtain⟨u,v,rfl⟩:=znh e;rfl,λcl g c A outer s H vals vs Q E i d fz h=>?_⟩
 ·obtain⟨r,b,lane,_,rfl,_⟩:=h
  rfl
 obtain⟨r,b,lane,rfl,rfl,h⟩:=h;refine⟨_,zal a.ok d (by rfl) a.m a.kp a.b .nil zaw (zaa (pv 2) (zaa (pv 0) (zaa (pv 1) zad))),?_⟩;exact⟨_,rfl,_,rfl,_,rfl,h⟩
theorem zlb {sc:Scope}{x0:Str}{env:Env}(h:(sc.names.filter λy=>y.2 == .free)=[(x0,.free)]) (k:env.kindOf x0=some .cell):∀ x,(x,NameKind.free)∈sc.names->env.kindOf x=some .cell\/env.kindOf x=some .free:=λx a=>by
 have z:(x,NameKind.free)∈sc.names.filter λy=>y.2 == .free:=List.mem_filter.mpr ⟨a,rfl⟩;rw[h]at z;obtain⟨e,_⟩:=Prod.mk.inj (Jd.mp z);exact .inl (e ▸ k)
theorem znX {X:Cx}{x:Str}{i:Nat}(h1:X.N[i]?=some x) (c:X.env.scope.names.lookup x=some .cell) (b:X.fn x=true):∀ p∈[(x,i)],X.N[p.2]?=some p.1/\X.env.scope.names.lookup p.1=some .cell/\X.fn p.1=true:=λp a=>by
 rw[Jd.mp a];exact⟨h1,c,b⟩
theorem zgH {cs:List (Str × Addr)}{x:Str}(h:cs.map (·.1)=[x]):∃ c,cs=[(x,c)]:=by
 match cs,h with
 | [(y,c)],h=>exact⟨c,by rw[show y=x from (Wa h).1]⟩
def qM:Str:=("merge_verdict":Str)++(".<locals>.":Str)++("<lambda>":Str)
def TellW (H:Hp) (p:Addr):LRes->Prop
 | .opn=>H p=some (.tup [.str "open",.non])
 | .brk c=>∃ b,H p=some (.tup [.str "breaks",.ref b])/\H b=some (.tup (c.map V.int))
 | .whl _=>∃ b,H p=some (.tup [.str "merges",.ref b])
def ze3 (N:Nt) (most:Nat):LRes:=za5 (za2 N) [0,1] most (most+1) [(k0M N,[0,0])] [] []
def zfD (q:Str) (Pt:Addr):Sp:=λvs H Q _=>∃ r fr er ps N,∃ most:Nat,vs=[.ref r,.int (most:Nat)]/\Nt.Ok N/\N.lanes%2=0/\NetAt H r fr er ps N/\0<most/\most<=10000/\TabQ q Pt H /\
 ∀ p H',But Pt H H'->TabQ q Pt H'->TellW H' p (ze3 N most)->Q (.ref p) H'
theorem zeY {N:Nt}(ok:Nt.Ok N):OkM N (k0M N):=⟨_,0,0,rfl,Yh,λt a=>.inl (WE a),ok.l1,ok.l1⟩
theorem scMv:FnScope ["net","most","word","found"] ["net","most"] (zaj zeN):=by trivial
theorem zkF {f fC fF fB c Pt G:Addr}{fd dC dF dB:FuncData}(F:FunC K "merge_verdict" "merge_verdict" zeN f fd c) (hH:mg "HALVES" = some (.ref G)) (sH:∀ H',SqT K H' G (nums [0,1])) (CK:CodeK K mg base c Pt) (Z:Use P w K mg base "climbed" ["first","counts","moves","led","most"] 7 (zfF P w K (lamM qM) ["net"] zcE) fC dC) (Y:Use P w K mg base "first_knot" ["net"] 2 zea fF dF)
  (UB:∀ F0,Use P w K mg base "book_of" ["levels"] 1 (zii P w F0 2) fB dB):FnOk P w K mg base CX0 8 f fd ["net","most"] (zfD qM Pt):=by
 refine F.ok scMv (λvs H Q E h=>?_) (λA outer s H vs Q E hr h=>?_)
 ·obtain⟨r,fr,er,ps,N,most,rfl,_⟩:=h
  rfl
 obtain⟨r,fr,er,ps,N,most,rfl,ok,ev,na,mp,mb,tab,k⟩:=h;refine⟨_,(@zaf _ _ _ _ _ (@zaT _ _ _ _ _ _ (zkx (E:=E0) Z.ok hr (by rfl) Z.m Z.kp Z.b [("net",0)] (by decide) (znX rfl rfl rfl) (@zaa _ _ _ _ _ (@zal _ _ _ _ _ _ _ _ _ _ _ _ _ _ _ _ Y.ok (hr.mono (by decide)) (by rfl) Y.m Y.kp Y.b .nil zaw (@zaa _ _ _ _ _ (@qv _ 0 _ _ (by trivial)) zad (by rfl)) (by decide) (by rfl) (by rfl)) (@zaa _ _ _ _ _ (@zaB _ _ _ _ _ (@zaa _ _ _ _ _ zah (@zaa _ _ _ _ _ zah zad (by rfl)) (by rfl))) (@zaa _ _ _ _ _ (@zmo _ _ (.ref G) _ _ (by rfl) @hH rfl (by decide)) (@zaa _ _ _ _ _ (znx (fr:=["net"]) CK rfl rfl (zlb (x0:="net") rfl rfl) rfl) (@zaa _ _ _ _ _ (@qv _ 1 _ _ (by trivial)) zad (by rfl)) (by rfl)) (by rfl)) (by rfl)) (by rfl))) (@zaV _ _ _ _ _ _ rfl (@zam _ _ _ _ _ (@zak _ _ 2 _ scMv.nd rfl (.inl rfl) (by trivial)) (@zam _ _ _ _ _ (@zak _ _ 3 _ scMv.nd rfl (.inl rfl) (by trivial)) zaF (by rfl)) (by rfl)) (by rfl) (by rfl)) (by rfl) (by rfl) (by rfl)) (@zaf _ _ _ _ _ (@zbw _ _ _ _ _ _ _ _ (@zaE _ _ _ _ _ _ _ _ zen (@qv _ 2 _ _ (by trivial)) zbN (zaR _)) (@zai _ _ _ (@zap _ _ _ _ (@zaB _ _ _ _ _ (@zaa _ _ _ _ _ zbN (@zaa _ _ _ _ _ (@zal _ _ _ _ _ _ _ _ _ _ _ _ _ _ _ _ (UB N.forks.length).ok (hr.mono (by decide)) (by rfl) (UB 0).m (UB 0).kp (UB 0).b .nil zaw (@zaa _ _ _ _ _ (@qv _ 3 _ _ (by trivial)) zad (by rfl)) (by decide) (by rfl) (by rfl)) zad (by rfl)) (by rfl))))) zaI) (@zai _ _ _ (@zap _ _ _ _ (@zaB _ _ _ _ _ (@zaa _ _ _ _ _ (@qv _ 2 _ _ (by trivial)) (@zaa _ _ _ _ _ (@qv _ 3 _ _ (by trivial)) zad (by rfl)) (by rfl))))))),?_⟩;have l16:=ok.l16;refine⟨_,rfl,r,fr,er,ps,N,rfl,ok,na,λb0 H1 s1 k1=>⟨by show 2<=sizeLine;decide,λc0 L=>?_⟩⟩;have s2:=zac L (.tup [.int 0,.int 0]);have h3:=atN L (.tup [.int 0,.int 0]);have u2:=s1.trans s2;show zlU _ _ _ (L2.upd H1 c0 (.tup [.int 0,.int 0])) _;generalize L2.upd H1 c0 (.tup [.int 0,.int 0])=H2 at *;obtain⟨l,hP,tok⟩:=tab.same u2;refine⟨l,hP,tok,λX cl l' H3 ag ah hf raw ad M kp=>?_⟩;refine⟨_,rfl,[.ref r],rfl,λj x i v T hv=>?_,λcs C af S nd ca out fre=>?_⟩
 ·cases j with
  | zero=>cases T;cases hv;rfl
  | succ j=>cases T
 obtain⟨a,rfl⟩:=zgH ag;obtain⟨c2,rfl⟩:=zgH af;have cc:a=c2:=Js ((ah _ (.head _)).symm.trans (S _ (.head _)));subst cc;have b3:But Pt H H3:=λb o e n=>kp b o (u2 b o e) n
 have d:Same H3 C:=λb o e=>by
  rw[out b λhb=>by rw[fre b hb]at e;cases e];exact e
 have aa:NetAt C r fr er ps N:=(na.tups (Tups.of u2)).tups λb xs e=>d _ _ (kp _ _ e (zcR e hP λz=>by cases z));have I:Tups H2 C:=λb xs e=>d _ _ (kp _ _ e (zcR e hP λz=>by cases z))
 have O:LamRaw C X (lamM qM) [("net",a)]:=by
  obtain⟨pm,cd,ct,oc,fs,tk,r1,r2,r3,r4⟩:=raw.ex;exact⟨pm,cd,ct,oc,fs,tk,d _ _ r1,d _ _ r2,r3,r4⟩
 have la:LamAt C X (lamM qM) [("net",a)] [.ref r]:=O.at_ ca (JJ.mpr ⟨Je,Zs⟩) (JJ.mpr ⟨Je,Zs⟩) rfl λi x c v T hv=>⟨i,T,hv⟩;have W:Way K C G X (lamM qM) ["net"] zcE [("net",a)] [.ref r] (za2 N) (OkM N) [0,1] 2:=⟨.inr sH,rfl,la,zk1 ok ev aa,by decide,λs m t os _ e=>zgv ok os e,by decide⟩;refine⟨b0,c0,G,X,_,[0,0],[0,1],[("net",a)],[.ref r],za2 N,OkM N,2,most,rfl,(k1.tups (Tups.of s2)).tups I,I _ _ h3,rfl,zeY ok,W,by lia,by decide,mp,λp B s5 tell=>?_⟩
 have ae:CellsFz [("net",a)] B:=λb hb=>by
  obtain⟨o,z⟩:=ca.fz b hb;exact⟨o,s5 _ _ z⟩
 replace tell:=TellR.kept tell (zhd ae)
 have J:Same H3 (za1 [("net",a)] B):=λb o e=>by
  rw[zaA λhb=>by rw[fre b hb]at e;cases e];exact s5 _ _ (d _ _ e)
 have b6:But Pt H (za1 [("net",a)] B):=b3.trans (But.of J);have g:TabQ qM Pt (za1 [("net",a)] B):=TabQ.same ⟨l',ad,M⟩ J;show gTup _ _ _ _ _ (za1 [("net",a)] B) _;generalize za1 [("net",a)] B=H6 at *
 have fin:∀ (q:Addr) (vs:List V) (R:LRes),H6 q=none->ze3 N most=R->TellW (L2.upd H6 q (.tup vs)) q R->Q (.ref q) (L2.upd H6 q (.tup vs)):=λq vs R y e z=>by
  have D:=zac y (.tup vs);refine k q _ (b6.trans (But.of D)) (g.same D) ?_;rw[e];exact z
 change TellR P w H6 p (ze3 N most) at tell
 cases u:ze3 N most with
 | opn =>
  rw[u]at tell;refine⟨p,_,rfl,SqT.of tell,rfl,_,_,rfl,_,_,rfl,rfl,?_⟩;refine⟨_,rfl,rfl,false,JR V.bl (Jv λz=>absurd (V.str.inj z) (by decide)),iteF ?_⟩
  exact⟨_,rfl,_,rfl,by show 2<=sizeLine;decide,λq y=>fin q _ .opn y u zab⟩
 | brk bc =>
  rw[u]at tell;obtain⟨b,h1,h2⟩:=tell;refine⟨p,_,rfl,SqT.of h1,rfl,_,_,rfl,_,_,rfl,rfl,?_⟩;refine⟨_,rfl,rfl,false,JR V.bl (Jv λz=>absurd (V.str.inj z) (by decide)),iteF ?_⟩
  exact⟨_,rfl,_,rfl,by show 2<=sizeLine;decide,λq y=>fin q _ (.brk bc) y u ⟨b,zab,zac y _ _ _ h2⟩⟩
 | whl ls =>
  rw[u]at tell;obtain⟨ll,as,h1,h2,h3⟩:=tell;refine⟨p,_,rfl,SqT.of h1,rfl,_,_,rfl,_,_,rfl,rfl,?_⟩;refine⟨_,rfl,rfl,true,JR V.bl (JG rfl),iteT ?_⟩;have wh:=zdu (Ok:=OkM N) (moves:=[0,1]) (λs m t os _ e=>zgv ok os e) _ _ [] [] ls ⟨λlv U=>absurd U Je,JS _⟩ rfl (JS _) (λp hp=>by rw[Jd.mp hp];exact zeY ok) u;have wf:=wh.few;refine⟨_,rfl,ll,as,ls,rfl,h2,h3,λlv U=>⟨?_,λp hp=>(wh.ok lv U p hp).st ok⟩,by lia,λq H7 D=>?_⟩
  ·have:=zhb U
   lia
  refine⟨by show 2<=sizeLine;decide,λq2 ab=>?_⟩;have s8:=zac ab (.tup [.str "merges",.ref q]);refine k q2 _ ((b6.trans (But.of D)).trans (But.of s8)) ((g.same D).same s8) ?_;rw[u];exact⟨q,zab⟩
end
end K64
namespace Bn
open PySem L2 Own
theorem zn5 {ps:List V}{x:V}(h:ps[ps.length-1]?=some x):atI ps (-1)=some x:=by
 have ne:ps≠[]:=by rintro rfl;simp at h
 have g:ps.getLast ne=x:=by rw[List.getLast_eq_getElem];exact(J9.mp h).2
 have e:ps=ps.dropLast++[x]:=by rw[<- g];exact(List.dropLast_concat_getLast ne).symm
 rw[e];exact zlo _ _
theorem zhs {ys zs:List V}(h:ys.Perm zs):∀ l:List Nat,zs=nums l->∃ es:List Nat,ys=nums es/\es.Perm l:=by
 induction h with
 | nil=>intro l e;cases l with
  | nil=>exact⟨[],rfl,.nil⟩
  | cons a b=>cases e
 | cons x _ ih=>intro l e;cases l with
  | nil=>cases e
  | cons a b =>
   have g:x=.int a/\_=nums b:=Wa e;obtain⟨es,d,f⟩:=ih b g.2
   exact⟨a::es,by rw[g.1,d];rfl,f.cons a⟩
 | swap x y t=>intro l e;match l,e with
  | [],e=>cases e
  | [_],e=>cases (Wa e).2
  | a::b::c,e =>
   have d:x=.int a/\y::t=nums (b::c):=Wa e;have e2:y=.int b/\t=nums c:=Wa d.2
   exact⟨b::a::c,by rw[d.1,e2.1,e2.2];rfl,.swap a b c⟩
 | trans _ _ i1 i2 =>
  intro l e;obtain⟨m,d,f⟩:=i2 l e;obtain⟨n,e2,p2⟩:=i1 m d;exact⟨n,e2,p2.trans f⟩
theorem ziT {ys:List V}{l:List Nat}(h:ys.Perm (nums l)):∃ es:List Nat,ys=nums es/\es.Perm l:=zhs h l rfl
theorem zdV {α:Type}:∀ (xs:List α) (k:Nat) (h:k<xs.length),(xs[k]::xs.eraseIdx k).Perm xs
 | x::xs,0,_=>.refl _
 | x::xs,k+1,h=>by
  have a:k<xs.length:=by simpa using h
  have ih:=zdV xs k a;exact(List.Perm.swap x xs[k] _).trans (ih.cons x)
end Bn
namespace K64
open PySem L2 Own Bn
abbrev sOf:Stmt:=top 39
abbrev zfH:Stmt:=top 40
abbrev sNet:Stmt:=top 41
def spOf:Sp:=λvs H Q _=>∃ (l q:Addr) (xs:List V),vs=[.ref l,.ref q]/\PkAt H l/\q≠l/\H q=some (.lst xs)/\0<xs.length/\xs.length<=100000/\∀ (i:Nat) x H',xs[i]?=some x->PkAt H' l->But l H H'->Q x H'
def zd4:Sp:=λvs H Q _=>∃ (l q:Addr) (xs:List V),vs=[.ref l,.ref q]/\PkAt H l/\q≠l/\H q=some (.lst xs)/\xs.length<=1000/\∀ r ys H',ys.Perm xs->H r=none->H' r=some (.lst ys)->PkAt H' l->But l H H'->Q (.ref r) H'
def zie (most:Nat):Sp:=λvs H Q _=>∃ (l:Addr) (lanes:Nat),vs=[.ref l,.int lanes,.int most]/\PkAt H l/\1<=lanes/\lanes<=16/\∀ r fr er ps N H',Nt.Ok N->N.lanes=lanes->N.forks.length<=most->NetAt H' r fr er ps N->PkAt H' l->But l H H'->Q (.ref r) H'
section
variable {P:Program}{w:World}{K:PySem.W.Frag}{mg:Str->Option Value}{base:Heap}
theorem scOf:FnScope ["_law_left_here","_law_some"] ["_law_left_here","_law_some"] (zaj sOf):=by trivial
theorem zoq {f g:Addr}{fd dK:FuncData}(F:Fun K "_law_of" "_law_of" sOf f fd) (G:Mgs mg) (a:Use P w K mg base "_law_pick" ["_law_left_here","_law_many"] 1 zc3 g dK):FnOk P w K mg base CX0 2 f fd ["_law_left_here","_law_some"] spOf:=by
 refine F.ok scOf (λvs H Q E h=>?_) (λcdv A outer s H vs Q E e h=>?_)
 ·obtain⟨l,q,xs,rfl,_⟩:=h
  rfl
 obtain⟨l,q,xs,rfl,S,ne,c,x0,i,k⟩:=h;refine⟨_,(@zai _ _ _ (@zap _ _ _ _ (@zaP _ _ _ _ _ _ _ zaK (@qv _ 1 _ _ (by trivial)) (@zal _ _ _ _ _ _ _ _ _ _ _ _ _ _ _ _ a.ok e (by rfl) a.m a.kp a.b .nil zaw (@zaa _ _ _ _ _ (@qv _ 0 _ _ (by trivial)) (@zaa _ _ _ _ _ (@zau _ _ _ _ _ _ _ _ _ zay (by rfl) G.len YT (@zaa _ _ _ _ _ (@qv _ 1 _ _ (by trivial)) zad (by rfl)) (by decide) (by decide) (by rfl) (by rfl)) zad (by rfl)) (by rfl)) (by decide) (by rfl) (by rfl)) (λ_ _=>rfl)))),?_⟩;refine⟨_,rfl,_,rfl,_,rfl,q,_,rfl,.inl (SqL.of c),l,_,rfl,by lia,by lia,S,λv H1 j S1 d=>?_⟩;have b:v<xs.length:=by lia
 exact⟨q,_,_,_,rfl,rfl,SqL.of (d q _ c ne),zb6 (J6 b),k v _ H1 (J6 b) S1 d⟩
theorem scPl:FnScope ["_law_left_here","_law_some","_law_found"] ["_law_left_here","_law_some"] (zaj zfH):=by trivial
theorem ziJ {f W:Addr}{fd dK:FuncData}(F:Fun K "_law_placed" "_law_placed" zfH f fd) (G:Mgs mg) (y:Use P w K mg base "_law_pick" ["_law_left_here","_law_many"] 1 zc3 W dK):FnOk P w K mg base CX0 2 f fd ["_law_left_here","_law_some"] zd4:=by
 refine F.ok scPl (λvs H Q E h=>?_) (λcdv A outer s H vs Q E M h=>?_)
 ·obtain⟨l,q,xs,rfl,_⟩:=h
  rfl
 obtain⟨l,q,xs,rfl,S,ne,T,xm,k⟩:=h;refine⟨_,(@zaf _ _ _ _ _ (@zaq _ _ 1 _ _ _ _ scPl.nd rfl (.inl rfl) (@zat _ _ _ _ _ _ _ _ _ zbr (by rfl) G.list (by rfl) (@zaa _ _ _ _ _ (@qv _ 1 _ _ (by trivial)) zad (by rfl)) (by decide) (by decide) (by rfl) (by rfl)) (by rfl) (by trivial)) (@zaf _ _ _ _ _ (@zaq _ _ 2 _ _ _ _ scPl.nd rfl (.inl rfl) (@zba _ _ _ _ zad) (by rfl) (by trivial)) (@zaf _ _ _ _ _ (@zgC _ _ _ _ _ _ Yx (@zaE _ _ _ _ _ _ _ _ (zly M.units0) (@qv _ 1 _ _ (by trivial)) (@zba _ _ _ _ zad) (zaR _)) (@zai _ _ _ (@zbg _ _ _ _ (@zdc _ _ _ _ _ _ _ _ _ _ _ _ Yp YJ YK zaW (@qv _ 2 _ _ (by trivial)) (@zaa _ _ _ _ _ (@zdc _ _ _ _ _ _ _ _ _ _ _ _ Yp PySem.F.slot_list_pop PySem.F.type_list_pop zkR (@qv _ 1 _ _ (by trivial)) (@zaa _ _ _ _ _ (@zal _ _ _ _ _ _ _ _ _ _ _ _ _ _ _ _ y.ok M (by rfl) y.m y.kp y.b .nil zaw (@zaa _ _ _ _ _ (@qv _ 0 _ _ (by trivial)) (@zaa _ _ _ _ _ (@zau _ _ _ _ _ _ _ _ _ zay (by rfl) G.len YT (@zaa _ _ _ _ _ (@qv _ 1 _ _ (by trivial)) zad (by rfl)) (by decide) (by decide) (by rfl) (by rfl)) zad (by rfl)) (by rfl)) (by decide) (by rfl) (by rfl)) zad (by rfl)) (by rfl) (by rfl) (by rfl) (by rfl) (by rfl)) zad (by rfl)) (by rfl) (by rfl) (by rfl) (by rfl) (by rfl)) (by rfl)))) (@zai _ _ _ (@zap _ _ _ _ (@qv _ 2 _ _ (by trivial))))))),?_⟩;refine⟨_,rfl,q,_,rfl,.inl (SqL.of T),λlo p=>?_⟩;have s1:=zac p (.lst xs);have u:=S.ne p;refine⟨(by show 0<=sizeLine;decide),λlt c=>?_⟩;have s2:=zac c (.lst []);have t:=(S.keep s1).ne c;have not:lo≠lt:=zae zab c;have J:Frs l H lo:=λb o e _=>zae e p;have flt:Frs l H lt:=λb o e _=>zae (s1 _ _ e) c
 have v:H lt=none:=by
  cases z:H lt with
  | none=>rfl
  | some o=>rw[s1 _ _ z]at c;cases c
 refine⟨λm σ g=>σ=[some (.ref l),some (.ref lo),some (.ref lt)]/\PkAt g l/\But l H g/\∃ us ys,g lo=some (.lst us)/\us.length=m/\g lt=some (.lst ys)/\(ys++us).Perm xs,
  ⟨_,rfl,(S.keep s1).keep s2,(But.of s1).trans (But.of s2),xs,[],by rw[zag not];exact zab,rfl,zab,.refl _⟩,?_⟩
 rintro m σ g ⟨rfl,Y,B3,us,ys,L,ul,R,pm⟩;refine⟨_,rfl,(by show 0<=sizeLine;decide),λe U=>?_⟩;have r:=zac U (.lst []);refine⟨lo,e,us,rfl,rfl,SqL.of (r _ _ L),SqL.of zab,_,rfl,?_⟩;have N:=Y.keep r;have O:But l H (L2.upd g e (.lst [])):=B3.trans (But.of r);have n:=r _ _ L;have j:=r _ _ R;generalize L2.upd g e (.lst [])=H4 at *;have ab:ys.length+us.length=xs.length:=by rw[<- Jn];exact pm.length_eq
 by_cases un:us=[]
 ·rw[show (!us.isEmpty)=false by rw[un];rfl]
  refine iteF ⟨_,rfl,k lt ys H4 ?_ v j N O⟩;rw[un,Yd]at pm;exact pm
 have up:0<us.length:=Wn.mpr un
 rw[show (!us.isEmpty)=true by cases us with
  | nil=>exact absurd rfl un
  | cons a b=>rfl]
 refine iteT ⟨_,λaa H' V=>⟨m-1,by lia,V⟩,?_⟩;refine⟨_,rfl,.inl ⟨rfl,_,SqL.of j⟩,_,rfl,.inl ⟨rfl,_,SqL.of n⟩,_,rfl,_,rfl,lo,_,rfl,.inl (SqL.of n),l,_,rfl,by lia,by lia,N,λd Z hk X B=>?_⟩;have x:d<us.length:=by lia
 have I:=B lo _ n u.symm;have D:=B lt _ j t.symm;refine⟨lo,_,_,d,us[d],rfl,rfl,I,by lia,by lia,(zf6 (ze9 (xs:=us) (i:=d) x)).1,J6 x,?_⟩;have C:upd Z lo (.lst (us.eraseIdx d)) lt=some (.lst ys):=by rw[zag not.symm];exact D
 refine⟨lt,_,_,rfl,rfl,C,JF (show ys.length<1001 by lia) (by decide),rfl,(X.upd u).upd t,((O.trans B).upd J).upd flt,us.eraseIdx d,ys++[us[d]],by rw[zag not];exact zab,by rw[List.length_eraseIdx,Jf x];lia,zab,?_⟩;refine List.Perm.trans ?_ pm;rw[JY];refine List.Perm.append_left ys ?_;exact zdV us d x
theorem scN:FnScope ["_law_left_here","_law_lanes","_law_most","_law_forks","_law_k","_law_a","_law_b","_law_ends_here"] ["_law_left_here","_law_lanes","_law_most"] (zaj sNet):=by trivial
theorem znF {f fK fO fP:Addr}{fd dK dO dP:FuncData}(most:Nat) (ao:most<=100) (F:Fun K "_law_net" "_law_net" sNet f fd) (G:Mgs mg) (c:Use P w K mg base "_law_pick" ["_law_left_here","_law_many"] 1 zc3 fK dK) (UO:Use P w K mg base "_law_of" ["_law_left_here","_law_some"] 2 spOf fO dO) (UP:Use P w K mg base "_law_placed" ["_law_left_here","_law_some"] 2 zd4 fP dP):FnOk P w K mg base CX0 3 f fd ["_law_left_here","_law_lanes","_law_most"] (zie most):=by
 refine F.ok scN (λvs H Q E h=>?_) (λcdv A outer s H vs Q E hr h=>?_)
 ·obtain⟨l,lanes,rfl,_⟩:=h
  rfl
 obtain⟨l,lanes,rfl,S,l1,l16,k⟩:=h;have I:Room 1 _:=hr.mono (by decide);refine⟨_,(@zaf _ _ _ _ _ (@zaq _ _ 3 _ _ _ _ scN.nd rfl (.inl rfl) (@zba _ _ _ _ zad) (by rfl) (by trivial)) (@zaf _ _ _ _ _ (@zbx _ _ _ _ _ _ _ _ Yx rfl (@zaU _ _ _ _ _ _ rfl G.range (@zaa _ _ _ _ _ (@zao _ _ _ _ _ _ _ _ zdf (@zal _ _ _ _ _ _ _ _ _ _ _ _ _ _ _ _ c.ok I (by rfl) c.m c.kp c.b .nil zaw (@zaa _ _ _ _ _ (@qv _ 0 _ _ (by trivial)) (@zaa _ _ _ _ _ (@zao _ _ _ _ _ _ _ _ zaJ (@qv _ 2 _ _ (by trivial)) zah) zad (by rfl)) (by rfl)) (by decide) (by rfl) (by rfl)) (@zat _ _ _ _ _ _ _ _ _ zfo (by rfl) G.int (by rfl) (@zaa _ _ _ _ _ (@zel _ _ _ _ _ _ _ _ zms (@qv _ 1 _ _ (by trivial)) zah (zaR _)) zad (by rfl)) (by decide) (by decide) (by rfl) (by rfl))) zad (by rfl)) (by rfl)) (@zak _ _ 4 _ scN.nd rfl (.inl rfl) (by trivial)) (@zaf _ _ _ _ _ (@zaq _ _ 5 _ _ _ _ scN.nd rfl (.inl rfl) (@zal _ _ _ _ _ _ _ _ _ _ _ _ _ _ _ _ c.ok I (by rfl) c.m c.kp c.b .nil zaw (@zaa _ _ _ _ _ (@qv _ 0 _ _ (by trivial)) (@zaa _ _ _ _ _ (@qv _ 1 _ _ (by trivial)) zad (by rfl)) (by rfl)) (by decide) (by rfl) (by rfl)) (by rfl) (by trivial)) (@zaf _ _ _ _ _ (@zaq _ _ 6 _ _ _ _ scN.nd rfl (.inl rfl) (@zao _ _ _ _ _ _ _ _ zbh (@zao _ _ _ _ _ _ _ _ zaJ (@zao _ _ _ _ _ _ _ _ zaJ (@qv _ 5 _ _ (by trivial)) zah) (@zal _ _ _ _ _ _ _ _ _ _ _ _ _ _ _ _ c.ok I (by rfl) c.m c.kp c.b .nil zaw (@zaa _ _ _ _ _ (@qv _ 0 _ _ (by trivial)) (@zaa _ _ _ _ _ (@zao _ _ _ _ _ _ _ _ zbO (@qv _ 1 _ _ (by trivial)) zah) zad (by rfl)) (by rfl)) (by decide) (by rfl) (by rfl))) (@qv _ 1 _ _ (by trivial))) (by rfl) (by trivial)) (@zaf _ _ _ _ _ (@zbw _ _ _ _ _ _ _ _ (@znu _ _ _ _ _ _ _ (@zaE _ _ _ _ _ _ _ _ (zly hr.units0) (@qv _ 3 _ _ (by trivial)) (@zba _ _ _ _ zad) (zaR _)) (@zmf _ _ _ _ (@zaE _ _ _ _ _ _ _ _ zen (@zal _ _ _ _ _ _ _ _ _ _ _ _ _ _ _ _ c.ok I (by rfl) c.m c.kp c.b .nil zaw (@zaa _ _ _ _ _ (@qv _ 0 _ _ (by trivial)) (@zaa _ _ _ _ _ zah zad (by rfl)) (by rfl)) (by decide) (by rfl) (by rfl)) zah (zaR _)))).pt (@zai _ _ _ (@zaT _ _ _ _ _ _ (@zmk _ _ _ _ _ _ _ (@zaP _ _ _ _ _ _ _ zaK (@qv _ 3 _ _ (by trivial)) (@zku _ _ _ _ _ _ zgs zah) (λ_ _=>rfl)) (@zaO _ _ _ (@zal _ _ _ _ _ _ _ _ _ _ _ _ _ _ _ _ UO.ok hr (by rfl) UO.m UO.kp UO.b .nil zaw (@zaa _ _ _ _ _ (@qv _ 0 _ _ (by trivial)) (@zaa _ _ _ _ _ (@zba _ _ _ _ (@zaa _ _ _ _ _ zah (@zaa _ _ _ _ _ (@zku _ _ _ _ _ _ zgs zah) zad (by rfl)) (by rfl))) zad (by rfl)) (by rfl)) (by decide) (by rfl) (by rfl)))) (@zaV _ _ _ _ _ _ rfl (@zam _ _ _ _ _ (@zak _ _ 5 _ scN.nd rfl (.inl rfl) (by trivial)) (@zam _ _ _ _ _ (@zak _ _ 6 _ scN.nd rfl (.inl rfl) (by trivial)) zaF (by rfl)) (by rfl)) (by rfl) (by rfl)) (by rfl) (by rfl) (by rfl))) zaI) (@zai _ _ _ (@zbg _ _ _ _ (@zdc _ _ _ _ _ _ _ _ _ _ _ _ Yp YJ YK zaW (@qv _ 3 _ _ (by trivial)) (@zaa _ _ _ _ _ (@zaB _ _ _ _ _ (@zaa _ _ _ _ _ (@qv _ 5 _ _ (by trivial)) (@zaa _ _ _ _ _ (@qv _ 6 _ _ (by trivial)) zad (by rfl)) (by rfl))) zad (by rfl)) (by rfl) (by rfl) (by rfl) (by rfl) (by rfl)) (by rfl)))))) (by intro _;rfl)) (@zaf _ _ _ _ _ (@zaq _ _ 7 _ _ _ _ scN.nd rfl (.inl rfl) (@zeV _ _ _ _ _ _ _ rfl (by rfl) G.list (by rfl) G.range (@zaa _ _ _ _ _ (@qv _ 1 _ _ (by trivial)) zad (by rfl)) (by rfl) (by rfl)) (by rfl) (by trivial)) (@zaf _ _ _ _ _ (@zbw _ _ _ _ _ _ _ _ (@zaE _ _ _ _ _ _ _ _ zen (@zal _ _ _ _ _ _ _ _ _ _ _ _ _ _ _ _ c.ok I (by rfl) c.m c.kp c.b .nil zaw (@zaa _ _ _ _ _ (@qv _ 0 _ _ (by trivial)) (@zaa _ _ _ _ _ zah zad (by rfl)) (by rfl)) (by decide) (by rfl) (by rfl)) zah (zaR _)) (@zai _ _ _ (@zaq _ _ 7 _ _ _ _ scN.nd rfl (.inl rfl) (@zal _ _ _ _ _ _ _ _ _ _ _ _ _ _ _ _ UP.ok hr (by rfl) UP.m UP.kp UP.b .nil zaw (@zaa _ _ _ _ _ (@qv _ 0 _ _ (by trivial)) (@zaa _ _ _ _ _ (@qv _ 7 _ _ (by trivial)) zad (by rfl)) (by rfl)) (by decide) (by rfl) (by rfl)) (by rfl) (by trivial))) zaI) (@zai _ _ _ (@zap _ _ _ _ (@zaB _ _ _ _ _ (@zaa _ _ _ _ _ (@qv _ 1 _ _ (by trivial)) (@zaa _ _ _ _ _ (@zat _ _ _ _ _ _ _ _ _ zar (by rfl) G.tuple (by rfl) (@zaa _ _ _ _ _ (@qv _ 3 _ _ (by trivial)) zad (by rfl)) (by decide) (by decide) (by rfl) (by rfl)) (@zaa _ _ _ _ _ (@zat _ _ _ _ _ _ _ _ _ zar (by rfl) G.tuple (by rfl) (@zaa _ _ _ _ _ (@qv _ 7 _ _ (by trivial)) zad (by rfl)) (by decide) (by decide) (by rfl) (by rfl)) zad (by rfl)) (by rfl)) (by rfl))))))))),?_⟩;refine⟨(by show 0<=sizeLine;decide),λlf ae=>?_⟩;have m:=S.ne ae;have B0:But l H (L2.upd H lf (.lst [])):=But.of (zac ae _);have aq:Frs l H lf:=λb o e _=>zae e ae;refine⟨_,rfl,_,rfl,_,_,rfl,rfl,l,_,rfl,by lia,by lia,S.upd m,λkv H1 au S1 B1=>?_⟩;refine⟨_,rfl,_,_,rfl,rfl,.inr ⟨_,rfl,_,_,rfl,rfl,.inl ⟨by lia,by lia⟩,?_⟩⟩
 have cb:((kv:Int)*(if decide ((1:Int)<lanes)=true then 1 else 0))=((if 1<lanes then kv else 0:Nat):Int):=by
  by_cases z:1<lanes
  ·rw[Jf (JG (by lia)),Jf z];lia
  ·rw[Ja (by rw[Jv (by lia)];exact Jq),Ja z];lia
 have cl:(if 1<lanes then kv else 0)<=most:=by split<;>lia
 refine⟨_,rfl,by rw[cb];lia,by rw[cb];lia,?_⟩;rw[cb];generalize ag:(if 1<lanes then kv else 0)=cnt at cl
 refine zbC (lo:=0) (n:=((cnt:Nat):Int).toNat) (λi σ O=>(∃ w4 w5 w6 w7,σ=[some (.ref l),some (.int lanes),some (.int most),some (.ref lf),w4,w5,w6,w7])/\PkAt O l/\But l H O/\∃ ps fs,O lf=some (.lst ps)/\Prs O ps fs/\fs.length=i/\∀ f∈fs,f.1<lanes/\f.2<lanes/\f.1≠f.2)
  ⟨⟨_,_,_,_,rfl⟩,S1,B0.trans B1,[],[],B1 lf _ zab m.symm,trivial,rfl,λf hf=>by simp at hf⟩ ?_ ?_
 ·rintro i σ O hi ⟨⟨w4,w5,w6,w7,rfl⟩,S2,B2,ps,fs,h2,p2,fl,R⟩
  have l2:1<lanes:=by
   by_cases z:1<lanes
   ·exact z
   ·rw[Ja z]at ag;lia
  refine⟨_,rfl,_,rfl,l,lanes,rfl,by lia,by lia,S2,λone H3 ho S3 B3=>?_⟩;refine⟨_,rfl,_,_,rfl,rfl,_,rfl,_,rfl,_,_,rfl,rfl,l,_,rfl,by lia,by lia,S3,λd u hd S4 D=>?_⟩;refine⟨_,_,rfl,rfl,_,rfl,_,_,rfl,rfl,by lia,?_⟩;have M:one<lanes:=by lia
  obtain⟨ad,aa⟩:=zkz (one:=one) (d:=d) (lanes:=lanes) M (by lia);have ec:((one:Int)+1+d)%lanes=(((one+1+d)%lanes:Nat):Int):=by rw[YA,Int.natCast_add,Int.natCast_add];rfl
  dsimp only;rw[ec];generalize (one+1+d)%lanes=oth at ad aa;have W:=D lf _ (B3 lf _ h2 m.symm) m.symm;have p4:=p2.tups ((B3.tups S2).trans (D.tups S3));have ar:But l H u:=(B2.trans B3).trans D
  have fin:∀ (a b:Nat) (p:Hp),a<lanes->b<lanes->a≠b->PkAt p l->But l H p->p lf=some (.lst ps)->Prs p ps fs->∀ t:Addr,p t=none->ps.length<sizeLine/\PkAt (upd (upd p t (.tup [.int a,.int b])) lf (.lst (ps++[.ref t]))) l/\But l H (upd (upd p t (.tup [.int a,.int b])) lf (.lst (ps++[.ref t]))) /\
    ∃ ah af,upd (upd p t (.tup [.int a,.int b])) lf (.lst (ps++[.ref t])) lf=some (.lst ah)/\Prs (upd (upd p t (.tup [.int a,.int b])) lf (.lst (ps++[.ref t]))) ah af/\af.length=i+1/\∀ f∈af,f.1<lanes/\f.2<lanes/\f.1≠f.2:=λa b p ha hb ab S5 T N p5 t B=>by
   have st:=zac B (.tup [.int a,.int b]);have U:=st _ _ N;have T6:Tups (upd p t (.tup [.int a,.int b])) (upd (upd p t (.tup [.int a,.int b])) lf (.lst (ps++[.ref t]))):=Tups.lst U;refine⟨by rw[p5.len,fl];exact JF (show i<1000 by lia) (by decide),(S5.keep st).upd m,(T.trans (But.of st)).upd aq,_,fs++[(a,b)],zab,((p5.tups (Tups.of st)).tups T6).add (f:=(a,b)) (T6 _ _ zab),by rw[Jn,fl];rfl,λf hf=>?_⟩;rcases Jx.mp hf with z|z
   ·exact R f z
   ·rw[Jd.mp z];exact⟨ha,hb,ab⟩
  refine⟨_,rfl,(by show 0<=sizeLine;decide),λe he=>?_⟩;have s5:=zac he (.lst []);refine⟨lf,e,ps,rfl,rfl,SqL.of (s5 _ _ W),SqL.of zab,_,rfl,?_⟩;have S5:=S4.keep s5;have T:But l H (L2.upd u e (.lst [])):=ar.trans (But.of s5);have N:=s5 _ _ W;have p5:=p4.tups (Tups.of s5);generalize L2.upd u e (.lst [])=p at *;by_cases pn:ps=[]
  ·rw[show (!ps.isEmpty)=false by rw[pn];rfl]
   refine iteF ?_;refine⟨_,rfl,.inl ⟨rfl,_,SqL.of N⟩,_,rfl,_,rfl,(by show 2<=sizeLine;decide),λt B=>?_⟩;obtain⟨z,Z,Y,X⟩:=fin one oth p M ad aa S5 T N p5 t B;exact⟨lf,_,_,rfl,rfl,zac B _ _ _ N,z,⟨_,_,_,_,rfl⟩,Z,Y,X⟩
  rw[show (!ps.isEmpty)=true by cases ps with
   | nil=>exact absurd rfl pn
   | cons a b=>rfl]
  refine iteT ⟨_,rfl,l,4,rfl,by decide,by decide,S5,λy H6 hy S6 B6=>⟨rfl,_,rfl,?_⟩⟩;have U:=B6 lf _ N m.symm;have p6:=p5.tups (B6.tups S5);have ak:But l H H6:=T.trans B6;refine ite2 (λ_=>?_) (λ_=>?_)
  ·-- the last one anew
   have pp:0<ps.length:=Wn.mpr pn;have lx:ps[ps.length-1]?=some ps[ps.length-1]:=J6 (by lia);obtain⟨a,g,ea,eg,ha⟩:=p6.get lx;have C:=R g (JP eg);rw[ea]at lx;refine⟨_,rfl,_,rfl,lf,_,_,_,rfl,rfl,SqL.of U,zn5 lx,?_⟩;refine⟨_,rfl,_,rfl,(by show 2<=sizeLine;decide),λq hq=>?_⟩;have s7:=zac hq (.lst [.int 1,.int (-1)]);have ap:=S6.ne hq;refine⟨l,q,_,rfl,S6.keep s7,ap.symm,zab,by show 0<2;decide,by show 2<=100000;decide,λj x H8 hx S8 B8=>?_⟩;have T8:Tups H6 H8:=(Tups.of s7).trans (B8.tups (S6.keep s7));have h8:=B8 lf _ (s7 _ _ U) m.symm;have aj:But l H H8:=(ak.trans (But.of s7)).trans B8;have jl:=(J9.mp hx).1;simp only[JW,Wg]at jl;rcases j with _|_|j
   ·obtain rfl:=Js hx
    refine⟨_,rfl,a,_,_,rfl,SqT.of (T8 _ _ ha),.inl ⟨rfl,?_⟩⟩;refine⟨a,_,rfl,SqT.of (T8 _ _ ha),rfl,_,_,rfl,_,_,rfl,rfl,?_⟩;refine⟨_,rfl,.inl ⟨rfl,_,SqL.of h8⟩,_,rfl,_,rfl,(by show 2<=sizeLine;decide),λt B=>?_⟩;obtain⟨z,Z,Y,X⟩:=fin g.1 g.2 H8 C.1 C.2.1 C.2.2 S8 aj h8 (p6.tups T8) t B;exact⟨lf,_,_,rfl,rfl,zac B _ _ _ h8,z,⟨_,_,_,_,rfl⟩,Z,Y,X⟩
   ·obtain rfl:=Js hx
    refine⟨_,rfl,a,_,_,rfl,SqT.of (T8 _ _ ha),.inr ⟨rfl,λb hb=>?_⟩⟩;have s9:=zac hb (.tup [.int g.2,.int g.1]);refine⟨b,_,rfl,SqT.of zab,rfl,_,_,rfl,_,_,rfl,rfl,?_⟩;refine⟨_,rfl,.inl ⟨rfl,_,SqL.of (s9 _ _ h8)⟩,_,rfl,_,rfl,(by show 2<=sizeLine;decide),λt B=>?_⟩;obtain⟨z,Z,Y,X⟩:=fin g.2 g.1 _ C.2.1 C.1 (Ne.symm C.2.2) (S8.keep s9) (aj.trans (But.of s9)) (s9 _ _ h8) ((p6.tups T8).tups (Tups.of s9)) t B;exact⟨lf,_,_,rfl,rfl,zac B _ _ _ (s9 _ _ h8),z,⟨_,_,_,_,rfl⟩,Z,Y,X⟩
   ·lia
  ·refine⟨_,rfl,.inl ⟨rfl,_,SqL.of U⟩,_,rfl,_,rfl,(by show 2<=sizeLine;decide),λt B=>?_⟩
   obtain⟨z,Z,Y,X⟩:=fin one oth H6 M ad aa S6 ak U p6 t B;exact⟨lf,_,_,rfl,rfl,zac B _ _ _ U,z,⟨_,_,_,_,rfl⟩,Z,Y,X⟩
 ·rintro σ O ⟨⟨w4,w5,w6,w7,rfl⟩,S2,B2,ps,fs,h2,p2,fl,R⟩
  refine⟨_,rfl,lanes,rfl,by lia,λle hle=>?_⟩;have s3:=zac hle (if true=true then HO.lst (upTo lanes) else .tup (upTo lanes));have e3:upd O le (if true=true then HO.lst (upTo lanes) else .tup (upTo lanes)) le=some (.lst (nums (List.range lanes))):=zab;have ai:=S2.ne hle;have S3:=S2.keep s3;have B3:But l H (upd O le (if true=true then HO.lst (upTo lanes) else .tup (upTo lanes))):=B2.trans (But.of s3);have h3:=s3 _ _ h2;have p3:=p2.tups (Tups.of s3);generalize upd O le (if true=true then HO.lst (upTo lanes) else .tup (upTo lanes))=H3 at *
  have fin:∀ (el:Addr) (es:List Nat) (w4 w5 w6:Option V) (u:Hp),es.Perm (List.range lanes)->u el=some (.lst (nums es))->PkAt u l->But l H u->u lf=some (.lst ps)->Prs u ps fs->∀ fr,u fr=none->∀ er,upd u fr (.tup ps) er=none->∀ r,upd (upd u fr (.tup ps)) er (.tup (nums es)) r=none->Q (.ref r) (upd (upd (upd u fr (.tup ps)) er (.tup (nums es))) r (.tup [.int lanes,.ref fr,.ref er])):=λel es w4 w5 w6 u pe he S4 D W p4 fr v er L r J=>by
   have t1:=zac v (.tup ps);have t2:=zac L (.tup (nums es));have t3:=zac J (.tup [.int lanes,.ref fr,.ref er]);have t:=(t1.trans t2).trans t3;exact k r fr er ps ⟨lanes,fs,es⟩ _ ⟨l1,l16,by show fs.length<=128;lia,R,pe⟩ rfl (by show fs.length<=most;lia) ⟨zab,(t2.trans t3) _ _ zab,p4.tups (Tups.of t),t3 _ _ zab⟩ (S4.keep t) (D.trans (But.of t))
  refine⟨_,rfl,l,2,rfl,by decide,by decide,S3,λy u hy S4 D=>⟨rfl,_,rfl,?_⟩⟩;have e4:=D le _ e3 ai.symm;have W:=D lf _ h3 m.symm;have p4:=p3.tups (D.tups S3);refine ite2 (λ_=>?_) (λ_=>?_)
  ·refine⟨_,rfl,_,rfl,l,le,_,rfl,S4,ai.symm,e4,by rw[zav,YG];lia,λel ys p pm av e5 S5 T=>?_⟩
   obtain⟨es,rfl,pe⟩:∃ es:List Nat,ys=nums es/\es.Perm (List.range lanes):=ziT pm;have N:=T lf _ W m.symm;refine⟨_,rfl,_,rfl,lf,_,rfl,.inl ⟨SqL.of N,λfr v=>⟨_,rfl,el,_,rfl,.inl ⟨SqL.of (zac v _ _ _ e5),λer L=>⟨(by show 3<=sizeLine;decide),λr J=>?_⟩⟩⟩⟩⟩;exact fin el es none none none p pe e5 S5 ((B3.trans D).trans T) N (p4.tups (T.tups S4)) fr v er L r J
  ·refine⟨_,rfl,_,rfl,lf,_,rfl,.inl ⟨SqL.of W,λfr v=>⟨_,rfl,le,_,rfl,.inl ⟨SqL.of (zac v _ _ _ e4),λer L=>⟨(by show 3<=sizeLine;decide),λr J=>?_⟩⟩⟩⟩⟩
   exact fin le _ none none none u (.refl _) e4 S4 (B3.trans D) W p4 fr v er L r J
end
abbrev zfL:Stmt:=top 1
theorem zmE (n:Nat):(List.replicate n [V.int 0]).flatten=(List.replicate n (0:Int)).map V.int:=by
 induction n with
 | zero=>rfl
 | succ n ih=>rw[Y5,WB,ih,Y5];rfl
def zd6:Sp:=λvs H Q _=>∃ r fr er ps N,vs=[.ref r]/\Nt.Ok N/\NetAt H r fr er ps N/\∀ p H',Same H H'->H' p=some (.tup ((ze7 N).map V.int))->Q (.ref p) H'
section
variable {P:Program}{w:World}{K:PySem.W.Frag}{mg:Str->Option Value}{base:Heap}
theorem scLy:FnScope ["net","lanes","forks","ends","reached","found","one","other","layer"] ["net"] (zaj zfL):=by trivial
theorem ziO {f:Addr}{fd:FuncData}(F:Fun K "layers" "layers" zfL f fd) (G:Mgs mg):FnOk P w K mg base CX0 1 f fd ["net"] zd6:=by
 refine F.ok scLy (λvs H Q E h=>?_) (λcdv A outer s H vs Q E Z h=>?_)
 ·obtain⟨r,fr,er,ps,N,rfl,_⟩:=h
  rfl
 obtain⟨r,fr,er,ps,N,rfl,ok,na,k⟩:=h;refine⟨_,(@zaf _ _ _ _ _ (@zaT _ _ _ _ _ _ (@qv _ 0 _ _ (by trivial)) (@zaV _ _ _ _ _ _ rfl (@zam _ _ _ _ _ (@zak _ _ 1 _ scLy.nd rfl (.inl rfl) (by trivial)) (@zam _ _ _ _ _ (@zak _ _ 2 _ scLy.nd rfl (.inl rfl) (by trivial)) (@zam _ _ _ _ _ (@zak _ _ 3 _ scLy.nd rfl (.inl rfl) (by trivial)) zaF (by rfl)) (by rfl)) (by rfl)) (by rfl) (by rfl)) (by rfl) (by rfl) (by rfl)) (@zaf _ _ _ _ _ (@zaq _ _ 4 _ _ _ _ scLy.nd rfl (.inl rfl) (@zao _ _ _ _ _ _ _ _ zny (@zba _ _ _ _ (@zaa _ _ _ _ _ zah zad (by rfl))) (@qv _ 1 _ _ (by trivial))) (by rfl) (by trivial)) (@zaf _ _ _ _ _ (@zaq _ _ 5 _ _ _ _ scLy.nd rfl (.inl rfl) (@zba _ _ _ _ zad) (by rfl) (by trivial)) (@zaf _ _ _ _ _ (@zbx _ _ _ _ _ _ _ _ Yx rfl (@zdb _ _ _ _ (@qv _ 2 _ _ (by trivial))) (@zaV _ _ _ _ _ _ rfl (@zam _ _ _ _ _ (@zak _ _ 6 _ scLy.nd rfl (.inl rfl) (by trivial)) (@zam _ _ _ _ _ (@zak _ _ 7 _ scLy.nd rfl (.inl rfl) (by trivial)) zaF (by rfl)) (by rfl)) (by rfl) (by rfl)) (@zaf _ _ _ _ _ (@zaq _ _ 8 _ _ _ _ scLy.nd rfl (.inl rfl) (@zao _ _ _ _ _ _ _ _ zaJ zah (@zau _ _ _ _ _ _ _ _ _ (zcu rfl) (by rfl) G.max (by rfl) (@zaa _ _ _ _ _ (@zaP _ _ _ _ _ _ _ zaK (@qv _ 4 _ _ (by trivial)) (@qv _ 6 _ _ (by trivial)) (λ_ _=>rfl)) (@zaa _ _ _ _ _ (@zaP _ _ _ _ _ _ _ zaK (@qv _ 4 _ _ (by trivial)) (@qv _ 7 _ _ (by trivial)) (λ_ _=>rfl)) zad (by rfl)) (by rfl)) (by decide) (by decide) (by rfl) (by rfl))) (by rfl) (by trivial)) (@zaf _ _ _ _ _ (@zaT _ _ _ _ _ _ (@qv _ 8 _ _ (by trivial)) (@zch _ _ _ _ _ _ _ (@qv _ 4 _ _ (by trivial)) (@qv _ 6 _ _ (by trivial)) zbd (by intro _;rfl)) (by rfl) (by rfl) (by rfl)) (@zaf _ _ _ _ _ (@zaT _ _ _ _ _ _ (@qv _ 8 _ _ (by trivial)) (@zch _ _ _ _ _ _ _ (@qv _ 4 _ _ (by trivial)) (@qv _ 7 _ _ (by trivial)) zbd (by intro _;rfl)) (by rfl) (by rfl) (by rfl)) (@zai _ _ _ (@zbg _ _ _ _ (@zdc _ _ _ _ _ _ _ _ _ _ _ _ Yp YJ YK zaW (@qv _ 5 _ _ (by trivial)) (@zaa _ _ _ _ _ (@qv _ 8 _ _ (by trivial)) zad (by rfl)) (by rfl) (by rfl) (by rfl) (by rfl) (by rfl)) (by rfl)))))) (by intro _;rfl)) (@zai _ _ _ (@zap _ _ _ _ (@zat _ _ _ _ _ _ _ _ _ zar (by rfl) G.tuple (by rfl) (@zaa _ _ _ _ _ (@qv _ 5 _ _ (by trivial)) zad (by rfl)) (by decide) (by decide) (by rfl) (by rfl)))))))),?_⟩;have l1:=ok.l1;have l16:=ok.l16;have fm:=ok.fm;have S:=na.prs.len;have tn:((N.lanes:Nat):Int).toNat=N.lanes:=by lia
 refine⟨_,rfl,r,_,rfl,SqT.of na.net,rfl,_,_,rfl,_,_,rfl,_,_,rfl,rfl,?_⟩;refine⟨(by show 1<=sizeLine;decide),λT L=>?_⟩;have s1:=zac L (.lst [.int 0]);refine⟨_,rfl,T,N.lanes,_,rfl,rfl,zab,by lia,by lia,by show 1*_<=sizeLine;rw[JM];lia,λc t=>?_⟩;have s2:=s1.trans (zac t (.lst (List.replicate ((N.lanes:Int)).toNat [V.int 0]).flatten))
 have j:H c=none:=by
  cases z:H c with
  | none=>rfl
  | some o=>exact absurd (s1 _ _ z) (by rw[t];exact λw=>nomatch w)
 refine⟨(by show 0<=sizeLine;decide),λlf m=>?_⟩;have M:=s2.trans (zac m (.lst []))
 have u:H lf=none:=by
  cases z:H lf with
  | none=>rfl
  | some o=>exact absurd (s2 _ _ z) (by rw[m];exact λw=>nomatch w)
 have d:c≠lf:=zae zab m;refine⟨_,rfl,fr,rfl,⟨_,SqT.of (M _ _ na.forks)⟩,?_⟩
 refine zet (K:=K) (a:=fr) (xs:=ps) (λi σ l=>(∃ I D C,σ=[some (.ref r),some (.int N.lanes),some (.ref fr),some (.ref er),some (.ref c),some (.ref lf),I,D,C])/\Same H l/\l c=some (.lst ((lay N.lanes (N.forks.take i)).1.map V.int))/\l lf=some (.lst ((lay N.lanes (N.forks.take i)).2.map V.int)))
  ⟨⟨_,_,_,rfl⟩,M,by rw[zag d,zab,tn,zmE];rfl,zab⟩ (λi σ l _ q=>SqT.of (q.2.1 _ _ na.forks)) ?_ ?_
 ·rintro i p σ l W ⟨⟨I,D,C,rfl⟩,v,h1,B⟩
  obtain⟨a,g,rfl,J,ha⟩:=(na.prs.tups (Tups.of v)).get W;have X:=ok.fk g (JP J);have Y:i<N.forks.length:=(J9.mp J).1;have ln:=zes (n:=N.lanes) i N.forks (by lia);have O:=zgR (n:=N.lanes) J;generalize lay N.lanes (N.forks.take i)=st at *;refine⟨a,_,rfl,SqT.of ha,rfl,_,_,rfl,_,_,rfl,rfl,?_⟩;refine⟨_,rfl,_,rfl,c,_,_,_,rfl,rfl,SqL.of h1,zbT (by lia),_,rfl,_,rfl,c,_,_,_,rfl,rfl,SqL.of h1,zbT (by lia),_,_,rfl,_,_,rfl,rfl,?_⟩;refine⟨_,rfl,_,rfl,_,rfl,c,_,_,g.1,rfl,rfl,h1,ze9 (by rw[Jm];lia),?_⟩;refine⟨_,rfl,_,rfl,_,rfl,c,_,_,g.2,rfl,rfl,zab,ze9 (by rw[Z9,Jm];lia),?_⟩;have R:∀ x y,L2.upd (L2.upd l c x) c y lf=some (.lst (st.2.map V.int)):=λx y=>by rw[zag d.symm,zag d.symm];exact B
  refine⟨_,rfl,.inl ⟨rfl,_,SqL.of (R _ _)⟩,_,rfl,lf,_,_,rfl,rfl,R _ _,by rw[Jm,ln.2];exact JF (show i<1000 by lia) (by decide),⟨_,_,_,rfl⟩,λb o e=>?_,?_,?_⟩
  ·rw[zag (zae e u),zag (zae e j),zag (zae e j)];exact v b o e
  ·rw[zag d,zab,O]
   unfold zb5;rw[zbE,zbE];rfl
  ·rw[zab,O]
   unfold zb5;rw[JN];rfl
 ·rintro σ l ⟨⟨I,D,C,rfl⟩,v,h1,B⟩
  rw[S,Yq]at B;exact⟨_,rfl,lf,_,rfl,.inl ⟨SqL.of B,λq U=>k q _ (v.trans (zac U _)) zab⟩⟩
end
abbrev ziq:Stmt:=top 2
def zfC:Sp:=λvs H Q _=>∃ r fr er ps N,vs=[.ref r]/\Nt.Ok N/\NetAt H r fr er ps N/\∀ c b a H',Same H H'->NetAt H' c b er a (zcg N)->Q (.ref c) H'
section
variable {P:Program}{w:World}{K:PySem.W.Frag}{mg:Str->Option Value}{base:Heap}
theorem scPq:FnScope ["net","lanes","forks","ends"] ["net"] (zaj ziq):=by trivial
theorem zkE {f fY:Addr}{fd dY:FuncData}(F:Fun K "plain" "plain" ziq f fd) (G:Mgs mg) (L:Use P w K mg base "layers" ["net"] 1 zd6 fY dY):FnOk P w K mg base CX0 2 f fd ["net"] zfC:=by
 refine F.ok scPq (λvs H Q E h=>?_) (λcdv A outer s H vs Q E W h=>?_)
 ·obtain⟨r,fr,er,ps,N,rfl,_⟩:=h
  rfl
 obtain⟨r,fr,er,ps,N,rfl,ok,na,k⟩:=h;refine⟨_,(@zaf _ _ _ _ _ (@zaT _ _ _ _ _ _ (@qv _ 0 _ _ (by trivial)) (@zaV _ _ _ _ _ _ rfl (@zam _ _ _ _ _ (@zak _ _ 1 _ scPq.nd rfl (.inl rfl) (by trivial)) (@zam _ _ _ _ _ (@zak _ _ 2 _ scPq.nd rfl (.inl rfl) (by trivial)) (@zam _ _ _ _ _ (@zak _ _ 3 _ scPq.nd rfl (.inl rfl) (by trivial)) zaF (by rfl)) (by rfl)) (by rfl)) (by rfl) (by rfl)) (by rfl) (by rfl) (by rfl)) (@zai _ _ _ (@zap _ _ _ _ (@zaB _ _ _ _ _ (@zaa _ _ _ _ _ (@qv _ 1 _ _ (by trivial)) (@zaa _ _ _ _ _ (@zat _ _ _ _ _ _ _ _ _ zar (by rfl) G.tuple (by rfl) (@zaa _ _ _ _ _ (@zeW _ _ _ _ none _ _ _ (gTup K 2 (zm3 (zjv 0) (zm3 (zjv 1) gNil))) _ _ ["layer","fork"] [none,none] rfl (@zek _ _ _ _ (@zhm _ _ _ _ _ _ _ _ false false (by rfl) G.sorted (by rfl) G.zip rfl W.units (@zaa _ _ _ _ _ (@zal _ _ _ _ _ _ _ _ _ _ _ _ _ _ _ _ L.ok W (by rfl) L.m L.kp L.b .nil zaw (@zaa _ _ _ _ _ (@qv _ 0 _ _ (by trivial)) zad (by rfl)) (by decide) (by rfl) (by rfl)) (@zaa _ _ _ _ _ (@qv _ 2 _ _ (by trivial)) zad (by rfl)) (by rfl)) (by rfl) (by rfl) (by rfl))) (CapOk.of (by kernel_rfl)) (λ_ _ _ _ _=>(@zaV _ _ _ _ _ _ rfl (@zam _ _ _ _ _ (@zak _ _ 0 _ (show (["layer","fork"]:List Str).Nodup from by decide +kernel) rfl (.inl rfl) (.inr rfl)) (@zam _ _ _ _ _ (@zak _ _ 1 _ (show (["layer","fork"]:List Str).Nodup from by decide +kernel) rfl (.inl rfl) (.inr rfl)) zaF (by rfl)) (by rfl)) (by rfl) (by rfl))) (λ_ _ _ _ _=>zbu) (λ_ _ _ _ _=>(@qv _ 1 _ _ (by trivial))) (by intro _;rfl)) zad (by rfl)) (by decide) (by decide) (by rfl) (by rfl)) (@zaa _ _ _ _ _ (@qv _ 3 _ _ (by trivial)) zad (by rfl)) (by rfl)) (by rfl)))))),?_⟩;have fm:=ok.fm;have pl:=na.prs.len;have ll:=zhC N;refine⟨_,rfl,r,_,rfl,SqT.of na.net,rfl,_,_,rfl,_,_,rfl,_,_,rfl,rfl,?_⟩;refine⟨_,rfl,_,rfl,r,fr,er,ps,N,rfl,ok,na,λp H1 s1 hp=>?_⟩;have v:=na.tups (Tups.of s1);refine⟨_,rfl,p,fr,_,ps,rfl,SqT.of hp,SqT.of v.forks,by rw[Jm];lia,by rw[Jm];lia,λts d s2 z2=>?_⟩;have u:=v.tups (Tups.of s2);obtain⟨te,B⟩:=zlJ z2 u.prs;rw[<- zns]at te;have low:∀ x∈ts,(dec d x).2.1<32/\(dec d x).2.2<32:=λx c=>zlt ok _ (by rw[<- te];exact JH.mpr ⟨x,c,rfl⟩);refine⟨λx=>rnk (dec d x),.inr ⟨2,by decide,λx c=>⟨?_,λy V=>znM (B x c) (B y V) (low x c) (low y V)⟩⟩,λl zs I pm so=>?_⟩
 ·obtain⟨t,g,rfl,h1,_⟩:=B x c
  exact⟨t,_,_,rfl,h1⟩
 have S:=zac I (.lst zs);have zl:zs.length=N.forks.length:=by rw[pm.length_eq,z2.1,Jm];exact ll
 have Y:zs.map (dec d)=zhH (pz N):=zda ok (by rw[<- te];exact pm.map _) (List.pairwise_map.mpr so);have R:∀ x∈zs,Trp d x (dec d x):=λx c=>B x (pm.mem_iff.mp c);refine⟨l,rfl,⟨_,SqL.of (zbk I (.lst zs))⟩,λD i=>?_⟩;refine zmR (K:=K) (a:=l) (xs:=zs) (λj acc σ m=>(∃ v0 M,σ=[v0,M])/\Same d m/\m l=some (.lst zs)/\m D=some (.lst acc)/\acc.length=j/\Prs m acc ((zs.take j).map λx=>(dec d x).2)) ⟨⟨_,_,rfl⟩,S.trans (zac i _),zac i _ _ _ (zbk I (.lst zs)),zab,rfl,trivial⟩ (λj acc σ m q=>⟨q.2.2.2.1,SqL.of q.2.2.1⟩) ?_ ?_
 ·rintro j x acc σ m c ⟨⟨v0,M,rfl⟩,n,T,J,al,pr⟩
  have U:=(J9.mp c).1;obtain⟨t,g,e,h1,h2⟩:=R x (JP c);have ne:D≠l:=by rintro rfl;rw[zbk I (.lst zs)]at i;cases i
  have keep:Same d (upd m D (.lst (acc++[.ref g]))):=λb o e=>by rw[zag (zae (S b o e) i)];exact n b o e
  refine⟨t,_,e,SqT.of (n _ _ h1),rfl,_,_,rfl,_,_,rfl,rfl,_,rfl,J,JF (show _<1000 by lia) (by decide),nx U ⟨⟨_,_,rfl⟩,keep,by rw[zag ne.symm];exact T,zab,by simp[al],?_⟩⟩;have xe:zs[j]=x:=(J9.mp c).2;rw[Y7 U,JN,xe];exact Prs.add (f:=(dec d x).2) (keep _ _ h2) (pr.tups (Tups.lst J))
 ·rintro acc σ m ⟨⟨v0,M,rfl⟩,n,T,J,al,pr⟩
  rw[Yq]at pr
  have pe:(zs.map λx=>(dec d x).2)=zeT N:=by
   unfold zeT;rw[<- Y,Zv];rfl
  rw[pe]at pr;refine⟨D,_,rfl,.inl ⟨SqL.of J,λq X=>?_⟩⟩;have O:=zac X (.tup acc);refine⟨_,rfl,(by show 3<=sizeLine;decide),λZ z=>?_⟩;have C:=zac z (.tup [.int N.lanes,.ref q,.ref er]);refine k Z q acc _ ((((s1.trans s2).trans n).trans O).trans C) ⟨zbk z _,C _ _ (zbk X _),pr.tups (Tups.of (O.trans C)),?_⟩;exact C _ _ (O _ _ (n _ _ u.ends))
end
abbrev sPow:Stmt:=top 28
abbrev zio:Stmt:=top 31
abbrev zed:Stmt:=top 32
def zlX:Sp:=λvs H Q _=>∃ m:Nat,vs=[.int m]/\m<=20/\Q (.int ((2 ^ m:Nat):Int)) H
def zfB:Sp:=λvs H Q _=>∃ m:Nat,vs=[.int m]/\m<=10/\∀ l,H l=none->Q (.ref l) (upd H l (.lst (nums (List.range (2 ^ m)))))
def zc4:Sp:=λvs H Q _=>∃ (p c lf le:Addr) (ps:List V) (fs:List Fk) (row es:List Nat),vs=[.ref p,.ref c]/\H p=some (.lst (nums row))/\H c=some (.tup [.ref lf,.ref le])/\H lf=some (.lst ps)/\Prs H ps fs/\H le=some (.lst (nums es))/\Nt.Ok ⟨row.length,fs,es⟩ /\
 ∀ e b d a H',Same H H'->NetAt H' e b d a (zcg ⟨row.length,fs,es⟩)->Q (.ref e) H'
section
variable {P:Program}{w:World}{K:PySem.W.Frag}{mg:Str->Option Value}{base:Heap}
theorem scP2:FnScope ["many","power","doubling"] ["many"] (zaj sPow):=by trivial
theorem znE {f:Addr}{fd:FuncData}(F:Fun K "power_of_two" "power_of_two" sPow f fd) (G:Mgs mg):FnOk P w K mg base CX0 1 f fd ["many"] zlX:=by
 refine F.ok scP2 (λvs H Q E h=>?_) (λcdv A outer s H vs Q E c h=>?_)
 ·obtain⟨m,rfl,_⟩:=h
  rfl
 obtain⟨m,rfl,hm,k⟩:=h;refine⟨_,(@zaf _ _ _ _ _ (@zaq _ _ 1 _ _ _ _ scP2.nd rfl (.inl rfl) zah (by rfl) (by trivial)) (@zaf _ _ _ _ _ (@zbx _ _ _ _ _ _ _ _ Yx rfl (@zaU _ _ _ _ _ _ rfl G.range (@zaa _ _ _ _ _ (@qv _ 0 _ _ (by trivial)) zad (by rfl)) (by rfl)) (@zak _ _ 2 _ scP2.nd rfl (.inl rfl) (by trivial)) (@zai _ _ _ (@znv _ _ 1 _ _ _ _ _ _ scP2.nd rfl (.inl rfl) zah zmW (by trivial))) (by intro _;rfl)) (@zai _ _ _ (@zap _ _ _ _ (@qv _ 1 _ _ (by trivial)))))),?_⟩;refine⟨_,rfl,m,rfl,by lia,by lia,zbC (lo:=0) (n:=((m:Nat):Int).toNat) (λi σ b=>b=H/\∃ a,σ=[some (.int m),some (.int ((2 ^ i:Nat):Int)),a]) ⟨rfl,_,rfl⟩ ?_ ?_⟩
 ·rintro i σ b hi ⟨rfl,a,rfl⟩
  refine⟨_,rfl,_,_,rfl,rfl,.inr ⟨by decide,by decide⟩,rfl,some (.int (0+(i:Nat))),?_⟩;rw[<- show ((2 ^ i:Nat):Int)*2=((2 ^ (i+1):Nat):Int) from by rw[Wq,Int.natCast_mul];rfl];rfl
 ·rintro σ b ⟨rfl,a,rfl⟩
  refine⟨_,rfl,?_⟩;rw[show ((m:Nat):Int).toNat=m from by lia];exact k
theorem scRo:FnScope ["k"] ["k"] (zaj zio):=by trivial
theorem zkD {f e:Addr}{fd g:FuncData}(F:Fun K "row_of" "row_of" zio f fd) (G:Mgs mg) (a:Use P w K mg base "power_of_two" ["many"] 1 zlX e g):FnOk P w K mg base CX0 2 f fd ["k"] zfB:=by
 refine F.ok scRo (λvs H Q E h=>?_) (λcdv A outer s H vs Q E c h=>?_)
 ·obtain⟨m,rfl,_⟩:=h
  rfl
 obtain⟨m,rfl,hm,k⟩:=h;refine⟨_,(@zai _ _ _ (@zap _ _ _ _ (@zeV _ _ _ _ _ _ _ rfl (by rfl) G.list (by rfl) G.range (@zaa _ _ _ _ _ (@zal _ _ _ _ _ _ _ _ _ _ _ _ _ _ _ _ a.ok c (by rfl) a.m a.kp a.b .nil zaw (@zaa _ _ _ _ _ (@qv _ 0 _ _ (by trivial)) zad (by rfl)) (by decide) (by rfl) (by rfl)) zad (by rfl)) (by rfl) (by rfl)))),?_⟩;have b:2 ^ m<=2 ^ 10:=Nat.pow_le_pow_right (by decide) hm;exact⟨_,rfl,m,rfl,by lia,2 ^ m,rfl,JX b (by decide),λl d=>k l d⟩
theorem scMn:FnScope ["row","made","forks","ends"] ["row","made"] (zaj zed):=by trivial
theorem zho {f v:Addr}{fd x:FuncData}(F:Fun K "net_of" "net_of" zed f fd) (G:Mgs mg) (e:Use P w K mg base "plain" ["net"] 2 zfC v x):FnOk P w K mg base CX0 3 f fd ["row","made"] zc4:=by
 refine F.ok scMn (λvs H Q E h=>?_) (λcdv A outer s H vs Q E q h=>?_)
 ·obtain⟨p,c,lf,le,ps,fs,row,es,rfl,_⟩:=h
  rfl
 obtain⟨p,c,lf,le,ps,fs,row,es,rfl,t,u,j,pr,hle,ok,k⟩:=h;refine⟨_,(@zaf _ _ _ _ _ (@zaT _ _ _ _ _ _ (@qv _ 1 _ _ (by trivial)) (@zaV _ _ _ _ _ _ rfl (@zam _ _ _ _ _ (@zak _ _ 2 _ scMn.nd rfl (.inl rfl) (by trivial)) (@zam _ _ _ _ _ (@zak _ _ 3 _ scMn.nd rfl (.inl rfl) (by trivial)) zaF (by rfl)) (by rfl)) (by rfl) (by rfl)) (by rfl) (by rfl) (by rfl)) (@zai _ _ _ (@zap _ _ _ _ (@zal _ _ _ _ _ _ _ _ _ _ _ _ _ _ _ _ e.ok q (by rfl) e.m e.kp e.b .nil zaw (@zaa _ _ _ _ _ (@zaB _ _ _ _ _ (@zaa _ _ _ _ _ (@zau _ _ _ _ _ _ _ _ _ zay (by rfl) G.len YT (@zaa _ _ _ _ _ (@qv _ 0 _ _ (by trivial)) zad (by rfl)) (by decide) (by decide) (by rfl) (by rfl)) (@zaa _ _ _ _ _ (@zat _ _ _ _ _ _ _ _ _ zar (by rfl) G.tuple (by rfl) (@zaa _ _ _ _ _ (@qv _ 2 _ _ (by trivial)) zad (by rfl)) (by decide) (by decide) (by rfl) (by rfl)) (@zaa _ _ _ _ _ (@zat _ _ _ _ _ _ _ _ _ zar (by rfl) G.tuple (by rfl) (@zaa _ _ _ _ _ (@qv _ 3 _ _ (by trivial)) zad (by rfl)) (by decide) (by decide) (by rfl) (by rfl)) zad (by rfl)) (by rfl)) (by rfl))) zad (by rfl)) (by decide) (by rfl) (by rfl))))),?_⟩;refine⟨_,rfl,c,_,rfl,SqT.of u,rfl,_,_,rfl,_,_,rfl,rfl,?_⟩;refine⟨_,rfl,p,_,rfl,.inl (SqL.of t),_,rfl,lf,_,rfl,.inl ⟨SqL.of j,λfr a=>?_⟩⟩;have s1:=zac a (.tup ps);refine⟨_,rfl,le,_,rfl,.inl ⟨SqL.of (s1 _ _ hle),λer b=>?_⟩⟩;have s2:=zac b (.tup (nums es));refine⟨(by show 3<=sizeLine;decide),λr i=>?_⟩;have d:=zac i (.tup [.int ((nums row).length:Nat),.ref fr,.ref er]);have n:L2.upd (L2.upd (L2.upd H fr (.tup ps)) er (.tup (nums es))) r (.tup [.int ((nums row).length:Nat),.ref fr,.ref er]) r=some (.tup [.int (row.length:Nat),.ref fr,.ref er]):=by rw[zab,zav]
 refine⟨r,fr,er,ps,⟨row.length,fs,es⟩,rfl,ok,⟨n,d _ _ (s2 _ _ (zbk a _)),pr.tups (Tups.of ((s1.trans s2).trans d)),d _ _ (zbk b _)⟩,λm l g H' s' o=>k m l er g H' (((s1.trans s2).trans d).trans s') o⟩
end
abbrev sBy:Stmt:=top 34
def spBy:Sp:=λvs H Q _=>∃ a p2 xs ys,vs=[.ref a,.ref p2]/\H a=some (.lst xs)/\H p2=some (.lst ys)/\xs.length=ys.length/\xs.length<=1000/\∀ l H',Same H H'->H' l=some (.lst (zbe xs ys))->Q (.ref l) H'
theorem zg6 {α:Type}(xs ys:List α) (i:Nat) (x y:α) (d:xs[i]?=some x) (c:ys[i]?=some y):zbe (xs.take (i+1)) (ys.take (i+1))=zbe (xs.take i) (ys.take i)++[x,y]:=by
 obtain⟨b,ex⟩:=J9.mp d;obtain⟨a,e⟩:=J9.mp c;rw[Y7 b,Y7 a,ex,e];unfold zbe;rw[List.zip_append (by rw[JE,JE];lia),List.flatMap_append];rfl
section
variable {P:Program}{w:World}{K:PySem.W.Frag}{mg:Str->Option Value}{base:Heap}
theorem scBt:FnScope ["one","other"] ["one","other"] (zaj sBy):=by trivial
theorem zor {f:Addr}{fd:FuncData}(F:Fun K "by_turns" "by_turns" sBy f fd) (G:Mgs mg):FnOk P w K mg base CX0 1 f fd ["one","other"] spBy:=by
 refine F.ok scBt (λvs H Q E h=>?_) (λcdv A outer s H vs Q E R h=>?_)
 ·obtain⟨B,p2,xs,ys,rfl,_⟩:=h
  rfl
 obtain⟨B,p2,xs,ys,rfl,h1,J,b,hz,k⟩:=h;refine⟨_,(@zai _ _ _ (@zap _ _ _ _ (@zlw _ _ _ _ _ _ none _ _ _ (iTup K (tVar 0)) _ _ _ _ ["pair","thing"] [none,none] rfl (@zmi _ _ _ _ _ _ _ _ true true rfl G.zip (@zaa _ _ _ _ _ (@qv _ 0 _ _ (by trivial)) (@zaa _ _ _ _ _ (@qv _ 1 _ _ (by trivial)) zad (by rfl)) (by rfl)) (by rfl) (by rfl)) (CapOk.of (by kernel_rfl)) (λ_ _ _ _ _=>(@zak _ _ 0 _ (show (["pair","thing"]:List Str).Nodup from by decide +kernel) rfl (.inl rfl) (.inr rfl))) (λ_ _ _ _ _=>(@zdb _ _ _ _ (@qv _ 0 _ _ (by trivial)))) (λ_ _ _ _ _=>(@zak _ _ 1 _ (show (["pair","thing"]:List Str).Nodup from by decide +kernel) rfl (.inl rfl) (.inr rfl))) (λ_ _ _ _ _=>zbu) (λ_ _ _ _ _=>(@qv _ 1 _ _ (by trivial))) (by intro _;rfl) (by intro _ _;rfl)))),?_⟩;refine⟨_,rfl,_,rfl,B,p2,xs,ys,rfl,SqL.of h1,SqL.of J,λl I=>?_⟩;refine zmT b (λi acc σ m=>(∃ v0 g,σ=[v0,g])/\Same H m/\m l=some (.lst acc)/\acc=zbe (xs.take i) (ys.take i)) ⟨⟨_,_,rfl⟩,zac I _,zab,rfl⟩ (λi acc σ m z=>⟨z.2.2.1,SqL.of (z.2.1 _ _ h1),SqL.of (z.2.1 _ _ J)⟩) ?_ ?_
 ·rintro i acc σ m x y T C N n ⟨⟨v0,g,rfl⟩,s2,a,e2⟩
  have M:=(J9.mp C).1
  have al:acc.length<=2000:=by
   rw[e2,zcv _ _ (by rw[JE,JE,b]),JE];lia
  refine⟨_,rfl,T,rfl,⟨_,.inl (.inl (zbk n _))⟩,?_⟩;have L:l≠T:=zae a n;refine zmU (zs:=[x,y]) (λj ac q G=>(∃ g,q=[some (.ref T),g])/\Same H G/\G T=some (.tup [x,y])/\G l=some (.lst ac)/\ac=acc++[x,y].take j) ⟨⟨_,rfl⟩,s2.trans (zac n _),zbk n _,zac n _ _ _ a,(Yd _).symm⟩ (λj ac q G z=>⟨z.2.2.2.1,.inl (.inl z.2.2.1)⟩) ?_ ?_
  ·rintro j u ac q G D ⟨⟨g,rfl⟩,t,p,d,r⟩
   have v:=(J9.mp D).1;refine⟨_,rfl,d,?_,nx v ⟨⟨_,rfl⟩,λc o e=>?_,?_,zab,?_⟩⟩
   ·rw[r,Jn,JE,JM]
    simp only[JW,Wg]at v ⊢;lia
   ·rw[zag (zae e I)];exact t c o e
   ·rw[zag (Ne.symm L)];exact p
   ·obtain⟨_,O⟩:=J9.mp D
    rw[r,JY,Y7 v,O]
  ·rintro ac q G ⟨⟨g,rfl⟩,t,p,d,r⟩
   refine nx M ⟨⟨_,_,rfl⟩,t,d,?_⟩;rw[r,e2,zg6 xs ys i x y C N];rfl
 ·rintro acc σ m ⟨_,s2,a,e2⟩
  refine k l m s2 ?_;rw[a,e2,Yq,b,Yq]
end
end K64
namespace L2
open PySem PySem.Spec PyProof.Rows Own
theorem FnOk.any {P:Program}{w:World}{K:PySem.W.Frag}{mg:Str->Option Value}{base:Heap}{CX:CXT}{k:Nat}{f:Addr}{fd:FuncData}{ps:List Str}{sp:Nat->Sp}(M:Nat) (F:∀ m,m<=M->FnOk P w K mg base CX k f fd ps (sp m)) :
  FnOk P w K mg base CX k f fd ps (λvs H Q E=>∃ m,m<=M/\sp m vs H Q E) :=
 ⟨λvs H Q E ⟨m,hm,q⟩=>(F m hm).len vs H Q E q,λA outer s H args us vs Q E b c hb a ⟨m,hm,q⟩=>(F m hm).run A outer s H args us vs Q E b c hb a q⟩
end L2
namespace Bn
open PySem L2 Own
def mergeN:Nat->List Nat->List Nat->List Fk × List Nat
 | 0,a,b=>(a.zip b,a++b)
 | m+1,a,b=>((mergeN m (by2 0 a) (by2 1 b)).1++(mergeN m (by2 1 a) (by2 0 b)).1++(mergeN m (by2 0 a) (by2 1 b)).2.zip (mergeN m (by2 1 a) (by2 0 b)).2,zbe (mergeN m (by2 0 a) (by2 1 b)).2 (mergeN m (by2 1 a) (by2 0 b)).2)
theorem zj8 {m n:Nat}(h:n=2 ^ (m+1)):n / 2=2 ^ m/\n-n / 2=2 ^ m/\n / 2<=n:=by
 rw[Wq]at h;lia
theorem zcY {α:Type}{m:Nat}{a:List α}(h:a.length=2 ^ (m+1)):(by2 0 a).length=2 ^ m/\(by2 1 a).length=2 ^ m:=by
 rw[zgi 0 (by decide),zgi 1 (by decide),h,Wq];lia
theorem zci:∀ (m:Nat) (a b:List Nat),a.length=2 ^ m->b.length=2 ^ m->(mergeN m a b).2.length=2 ^ (m+1)/\(mergeN m a b).1.length=(m+1)*2 ^ m
 | 0,a,b,ha,hb=>by
  show (a++b).length=_/\(a.zip b).length=_
  rw[Jn,Wi,ha,hb];exact⟨rfl,rfl⟩
 | m+1,a,b,ha,hb=>by
  obtain⟨k,j⟩:=zcY ha;obtain⟨i,h⟩:=zcY hb;obtain⟨d,g⟩:=zci m _ _ k h;obtain⟨c,f⟩:=zci m _ _ j i;show (zbe _ _).length=_/\(_++_++List.zip _ _).length=_;rw[zcv _ _ (d.trans c.symm),Jn,Jn,Wi,d,c,g,f,Nat.min_self];have e:(m+1)*2 ^ m+(m+1)*2 ^ m=(m+1)*2 ^ (m+1):=by rw[<- Nat.two_mul,Wq,Nat.mul_left_comm,Nat.mul_comm 2 (2 ^ m)]
  refine⟨by rw[Wq 2 (m+1),Nat.mul_comm],?_⟩;rw[e,<- Nat.succ_mul]
def zh8:Nat->Nat
 | 0=>0
 | m+1=>zh8 m+zh8 m+(m+1)*2 ^ m
theorem zeK:∀ m,m<=10->zh8 m<=100000/\(m+1)*2 ^ m<=20000:=by decide +kernel
def zby (m:Nat):Nt:=⟨2 ^ (m+1),(mergeN m ((List.range (2 ^ (m+1))).take (2 ^ m)) ((List.range (2 ^ (m+1))).drop (2 ^ m))).1,(mergeN m ((List.range (2 ^ (m+1))).take (2 ^ m)) ((List.range (2 ^ (m+1))).drop (2 ^ m))).2⟩
theorem zi3:∀ m,m<4->(zby m).forks.length<=128/\(∀ f∈(zby m).forks,f.1<2 ^ (m+1)/\f.2<2 ^ (m+1)/\f.1≠f.2)/\(zby m).ends.Perm (List.range (2 ^ (m+1))):=by decide +kernel
theorem ze8 {k:Nat}(h:k<5):1<=2 ^ k/\2 ^ k<=16:=⟨Nat.one_le_two_pow,Nat.pow_le_pow_right (show 0<2 by decide) (show k<=4 by lia)⟩
theorem zgP {m:Nat}(h:m<4):(zby m).Ok:=let ⟨a,b,c⟩:=zi3 m h;⟨(ze8 (k:=m+1) (by lia)).1,(ze8 (k:=m+1) (by lia)).2,a,b,c⟩
end Bn
namespace K64
open PySem L2 Own Bn
abbrev zcd:Stmt:=top 33
def zbK (m:Nat):Sp:=λvs H Q _=>∃ d p2 a b,vs=[.ref d,.ref p2]/\H d=some (.lst (nums a))/\H p2=some (.lst (nums b))/\a.length=2 ^ m/\b.length=2 ^ m/\m<=8/\∀ c lf le ps H',Same H H'->H' c=some (.tup [.ref lf,.ref le])->H' lf=some (.lst ps)->Prs H' ps (mergeN m a b).1->H' le=some (.lst (nums (mergeN m a b).2))->Q (.ref c) H'
theorem znK (row:List Nat) (i:Nat) (h:i<=row.length):cutV (nums row) none (some (i:Int))=nums (row.take i):=by
 rw[zcV _ _ (by rw[zav];exact h)];unfold nums;rw[List.map_take]
theorem znL (row:List Nat) (i:Nat) (h:i<=row.length):cutV (nums row) (some (i:Int)) none=nums (row.drop i):=by
 rw[zcW _ _ (by rw[zav];exact h)];unfold nums;rw[List.map_drop]
theorem zmL (a b:List Nat):zbe (nums a) (nums b)=nums (zbe a b):=by unfold nums;exact zg7 _ a b
theorem zkZ (off:Nat) (a:List Nat):by2 off (nums a)=nums (by2 off a):=by unfold nums;exact zm9 _ off a
theorem zou (a b:List Nat):nums a++nums b=nums (a++b):=by unfold nums;exact(JN ..).symm
section
variable {P:Program}{w:World}{K:PySem.W.Frag}{mg:Str->Option Value}{base:Heap}
theorem scMo:FnScope ["one","other","first_forks","first_ends","second_forks","second_ends","last_forks"] ["one","other"] (zaj zcd):=by trivial
theorem zdg {f fB:Addr}{fd dB:FuncData}(F:Fun K "merger_of" "merger_of" zcd f fd) (G:Mgs mg) (UB:Use P w K mg base "by_turns" ["one","other"] 1 spBy fB dB) (bS:Binds K fd ["one","other"] []) (mS:mg "merger_of" = some (.ref f)) (n:Nat)
  (GS:FnOk P w K mg base CX0 (n+1) f fd ["one","other"] (λvs H Q E=>∃ m,n=m+1/\zbK m vs H Q E)):FnOk P w K mg base CX0 (n+2) f fd ["one","other"] (zbK n):=by
 have e:Use P w K mg base "merger_of" ["one","other"] (n+1) (λvs H Q E=>∃ m,n=m+1/\zbK m vs H Q E) f fd:=⟨GS,bS,F.kp,mS⟩;refine F.ok scMo (λvs H Q E h=>?_) (λcdv A outer s H vs Q E hr h=>?_)
 ·obtain⟨q,p2,a,b,rfl,_⟩:=h
  rfl
 obtain⟨q,p2,a,b,rfl,h1,h2,al,bl,aa,k⟩:=h;have ae:Room 1 _:=hr.mono (by lia);refine⟨_,(@zaf _ _ _ _ _ (@zbw _ _ _ _ _ _ _ _ (@zaE _ _ _ _ _ _ _ _ znz (@zau _ _ _ _ _ _ _ _ _ zay (by rfl) G.len YT (@zaa _ _ _ _ _ (@qv _ 0 _ _ (by trivial)) zad (by rfl)) (by decide) (by decide) (by rfl) (by rfl)) zah (zaR _)) (@zai _ _ _ (@zap _ _ _ _ (@zaB _ _ _ _ _ (@zaa _ _ _ _ _ (@zeU _ _ _ _ _ _ _ _ true true (by rfl) G.list (by rfl) G.zip rfl (@zaa _ _ _ _ _ (@qv _ 0 _ _ (by trivial)) (@zaa _ _ _ _ _ (@qv _ 1 _ _ (by trivial)) zad (by rfl)) (by rfl)) (by rfl) (by rfl) (by rfl)) (@zaa _ _ _ _ _ (@zao _ _ _ _ _ _ _ _ zgF (@qv _ 0 _ _ (by trivial)) (@qv _ 1 _ _ (by trivial))) zad (by rfl)) (by rfl))))) zaI) (@zaf _ _ _ _ _ (@zaT _ _ _ _ _ _ (@zal _ _ _ _ _ _ _ _ _ _ _ _ _ _ _ _ e.ok hr (by rfl) e.m e.kp e.b .nil zaw (@zaa _ _ _ _ _ (@zgE _ _ _ _ _ _ _ _ _ (@qv _ 0 _ _ (by trivial)) zbv (@zaO _ _ _ zah)) (@zaa _ _ _ _ _ (@zgE _ _ _ _ _ _ _ _ _ (@qv _ 1 _ _ (by trivial)) (@zaO _ _ _ zah) (@zaO _ _ _ zah)) zad (by rfl)) (by rfl)) (by decide) (by rfl) (by rfl)) (@zaV _ _ _ _ _ _ rfl (@zam _ _ _ _ _ (@zak _ _ 2 _ scMo.nd rfl (.inl rfl) (by trivial)) (@zam _ _ _ _ _ (@zak _ _ 3 _ scMo.nd rfl (.inl rfl) (by trivial)) zaF (by rfl)) (by rfl)) (by rfl) (by rfl)) (by rfl) (by rfl) (by rfl)) (@zaf _ _ _ _ _ (@zaT _ _ _ _ _ _ (@zal _ _ _ _ _ _ _ _ _ _ _ _ _ _ _ _ e.ok hr (by rfl) e.m e.kp e.b .nil zaw (@zaa _ _ _ _ _ (@zgE _ _ _ _ _ _ _ _ _ (@qv _ 0 _ _ (by trivial)) (@zaO _ _ _ zah) (@zaO _ _ _ zah)) (@zaa _ _ _ _ _ (@zgE _ _ _ _ _ _ _ _ _ (@qv _ 1 _ _ (by trivial)) zbv (@zaO _ _ _ zah)) zad (by rfl)) (by rfl)) (by decide) (by rfl) (by rfl)) (@zaV _ _ _ _ _ _ rfl (@zam _ _ _ _ _ (@zak _ _ 4 _ scMo.nd rfl (.inl rfl) (by trivial)) (@zam _ _ _ _ _ (@zak _ _ 5 _ scMo.nd rfl (.inl rfl) (by trivial)) zaF (by rfl)) (by rfl)) (by rfl) (by rfl)) (by rfl) (by rfl) (by rfl)) (@zaf _ _ _ _ _ (@zaq _ _ 6 _ _ _ _ scMo.nd rfl (.inl rfl) (@zeU _ _ _ _ _ _ _ _ true true (by rfl) G.list (by rfl) G.zip rfl (@zaa _ _ _ _ _ (@qv _ 3 _ _ (by trivial)) (@zaa _ _ _ _ _ (@qv _ 5 _ _ (by trivial)) zad (by rfl)) (by rfl)) (by rfl) (by rfl) (by rfl)) (by rfl) (by trivial)) (@zai _ _ _ (@zap _ _ _ _ (@zaB _ _ _ _ _ (@zaa _ _ _ _ _ (@zao _ _ _ _ _ _ _ _ zgF (@zao _ _ _ _ _ _ _ _ zgF (@qv _ 2 _ _ (by trivial)) (@qv _ 4 _ _ (by trivial))) (@qv _ 6 _ _ (by trivial))) (@zaa _ _ _ _ _ (@zal _ _ _ _ _ _ _ _ _ _ _ _ _ _ _ _ UB.ok ae (by rfl) UB.m UB.kp UB.b .nil zaw (@zaa _ _ _ _ _ (@qv _ 3 _ _ (by trivial)) (@zaa _ _ _ _ _ (@qv _ 5 _ _ (by trivial)) zad (by rfl)) (by rfl)) (by decide) (by rfl) (by rfl)) zad (by rfl)) (by rfl))))))))),?_⟩;have na:=zav a;have nb:=zav b;have p8:2 ^ n<=2 ^ 8:=Nat.pow_le_pow_right (by decide) aa;have e8:2 ^ 8=256:=rfl;refine⟨_,rfl,q,_,rfl,.inl (SqL.of h1),_,_,rfl,rfl,_,rfl,?_⟩
 cases n with
 | zero =>
  have ap:a.length=1:=al;have ao:b.length=1:=bl;rw[JG (show (((nums a).length:Nat):Int)<2 by lia)];refine iteT ⟨_,rfl,_,rfl,q,p2,_,_,rfl,SqL.of h1,SqL.of h2,by lia,by lia,λZ ts H2 s3 n1 n2 z=>?_⟩;have pz:=ziy z (by lia);have u:=zac n2 (.lst ts);have u4:=s3.trans u;refine⟨_,rfl,_,rfl,q,p2,_,_,rfl,rfl,u4 _ _ h1,u4 _ _ h2,by rw[JM];lia,λl5 U=>⟨(by show 2<=sizeLine;decide),λc v=>?_⟩⟩;have p:=zac U (.lst (nums a++nums b));have o:=zac v (.tup [.ref Z,.ref l5]);refine k c Z l5 ts _ ((u4.trans p).trans o) (zbk v _) (o _ _ (p _ _ (zbk n2 _))) (((pz.tups (Tups.of u)).tups (Tups.of p)).tups (Tups.of o)) ?_
  rw[o _ _ (zbk U _),zou];rfl
 | succ m =>
  obtain⟨a0,a1⟩:=zcY al;obtain⟨b0,b1⟩:=zcY bl;have pw:2 ^ (m+1)=2 ^ m*2:=Wq ..;have p0:=Nat.one_le_two_pow (n:=m);rw[Jv (show ¬(((nums a).length:Nat):Int)<2 by lia)];refine iteF ⟨_,rfl,2,rfl,rfl,0,q,_,.inl ⟨rfl,rfl⟩,rfl,SqL.of h1,λq1 S=>?_⟩;rw[zkZ];have s1:=zac S (.lst (nums (by2 0 a)));refine⟨_,rfl,1,rfl,2,rfl,rfl,1,p2,_,.inr ⟨rfl,rfl⟩,rfl,SqL.of (s1 _ _ h2),λq2 R=>?_⟩;rw[zkZ];have s2:=zac R (.lst (nums (by2 1 b)));refine⟨m,rfl,q1,q2,by2 0 a,by2 1 b,rfl,s2 _ _ (zbk S _),zbk R _,a0,b1,by lia,λc3 ad J B H3 s3 ai ag D W=>?_⟩;have u3:=(s1.trans s2).trans s3;refine⟨c3,_,rfl,SqT.of ai,rfl,_,_,rfl,_,_,rfl,rfl,?_⟩;refine⟨_,rfl,1,rfl,2,rfl,rfl,1,q,_,.inr ⟨rfl,rfl⟩,rfl,SqL.of (u3 _ _ h1),λq4 O=>?_⟩;rw[zkZ];have u:=zac O (.lst (nums (by2 1 a)));refine⟨_,rfl,2,rfl,rfl,0,p2,_,.inl ⟨rfl,rfl⟩,rfl,SqL.of (u _ _ (u3 _ _ h2)),λq5 N=>?_⟩;rw[zkZ];have p:=zac N (.lst (nums (by2 0 b)));refine⟨m,rfl,q4,q5,by2 1 a,by2 0 b,rfl,p _ _ (zbk O _),zbk N _,a1,b0,by lia,λc6 ab I y H6 o ah af C V=>?_⟩;have t:=(u.trans p).trans o;refine⟨c6,_,rfl,SqT.of ah,rfl,_,_,rfl,_,_,rfl,rfl,?_⟩;obtain⟨l,xf⟩:=zci m _ _ a0 b1;obtain⟨Y,yf⟩:=zci m _ _ a1 b0;have bd:=(zeK m (by lia)).2;have ak:=D.len;have aj:=C.len;refine⟨_,rfl,_,rfl,J,I,_,_,rfl,SqL.of (t _ _ W),SqL.of V,by rw[zav,zav,l,Y];exact Jg _,by rw[zav,l];lia,λZ ts H7 s7 n1 n2 z=>?_⟩;have pz:=ziy z (by rw[l,Y];exact Jg _);have s8:=zac n2 (.lst ts);have r:=s7.trans s8;have tl:=pz.len;rw[Wi,l,Y,Nat.min_self]at tl;refine⟨_,rfl,_,rfl,ad,ab,_,_,rfl,rfl,r _ _ (t _ _ ag),r _ _ af,by rw[JM];lia,λl9 T=>?_⟩;have s9:=zac T (.lst (B++y));refine⟨_,rfl,l9,Z,_,_,rfl,rfl,zbk T _,s9 _ _ (zbk n2 _),by rw[JM,Jn];lia,λM g=>?_⟩;have x:=zac g (.lst ((B++y)++ts));have i:=(r.trans s9).trans x;refine⟨_,rfl,_,rfl,J,I,_,_,rfl,i _ _ (t _ _ W),i _ _ V,by rw[zav,zav,l,Y],by rw[zav,l];lia,λL aq j X=>?_⟩;rw[zmL]at X;refine⟨(by show 2<=sizeLine;decide),λc v=>?_⟩;have d:=zac v (.tup [.ref M,.ref L]);refine k c M L _ _ ((u3.trans t).trans ((i.trans j).trans d)) (zbk v _) (d _ _ (j _ _ (zbk g _))) ?_ (d _ _ X);refine Prs.tups (Tups.of ((s9.trans x).trans (j.trans d))) ?_;exact Prs.app (Prs.app ((D.tups (Tups.of t)).tups (Tups.of r)) (C.tups (Tups.of r))) (pz.tups (Tups.of s8))
theorem zdO {f d:Addr}{fd e:FuncData}(F:Fun K "merger_of" "merger_of" zcd f fd) (G:Mgs mg) (c:Use P w K mg base "by_turns" ["one","other"] 1 spBy d e) (b:Binds K fd ["one","other"] []) (a:mg "merger_of" = some (.ref f)):∀ n:Nat,FnOk P w K mg base CX0 (n+2) f fd ["one","other"] (zbK n)
 | 0=>zdg F G c b a 0 ⟨λvs H Q E ⟨m,h,_⟩=>by lia,λA outer s H args us vs Q E _ _ _ _ ⟨m,h,_⟩=>by lia⟩
 | m+1=>zdg F G c b a (m+1) ((zdO F G c b a m).imp λvs H Q E ⟨g,h,q⟩=>by cases h;exact q)
abbrev zcx:Sp:=λvs H Q E=>∃ m,m<=4/\zbK m vs H Q E
theorem zfT {f b:Addr}{fd c:FuncData}(F:Fun K "merger_of" "merger_of" zcd f fd) (G:Mgs mg) (e:Use P w K mg base "by_turns" ["one","other"] 1 spBy b c) (d:Binds K fd ["one","other"] []) (a:mg "merger_of" = some (.ref f)):FnOk P w K mg base CX0 6 f fd ["one","other"] zcx :=
 FnOk.any 4 λm hm=>(zdO F G e d a m).mono (by lia)
end
abbrev zfK:Stmt:=top 30
def zd5:Sp:=λvs H Q _=>∃ k:Nat,vs=[.int ((k+1:Nat):Int)]/\k<4/\∀ d b c a H',Same H H'->NetAt H' d b c a (zcg (zby k))->Q (.ref d) H'
section
variable {P:Program}{w:World}{K:PySem.W.Frag}{mg:Str->Option Value}{base:Heap}
theorem scMr:FnScope ["k","row","half"] ["k"] (zaj zfK):=by trivial
theorem ziM {f S R T:Addr}{fd V dT W:FuncData}(F:Fun K "merger" "merger" zfK f fd) (G:Mgs mg) (e:Use P w K mg base "row_of" ["k"] 2 zfB S V) (d:Use P w K mg base "merger_of" ["one","other"] 6 zcx R dT) (g:Use P w K mg base "net_of" ["row","made"] 3 zc4 T W):FnOk P w K mg base CX0 7 f fd ["k"] zd5:=by
 refine F.ok scMr (λvs H Q E h=>?_) (λcdv A outer s H vs Q E i h=>?_)
 ·obtain⟨k,rfl,_⟩:=h
  rfl
 obtain⟨k,rfl,L,q⟩:=h;have m:Room 2 _:=i.mono (by decide);have l:Room 3 _:=i.mono (by decide);refine⟨_,(@zaf _ _ _ _ _ (@zaq _ _ 1 _ _ _ _ scMr.nd rfl (.inl rfl) (@zal _ _ _ _ _ _ _ _ _ _ _ _ _ _ _ _ e.ok m (by rfl) e.m e.kp e.b .nil zaw (@zaa _ _ _ _ _ (@qv _ 0 _ _ (by trivial)) zad (by rfl)) (by decide) (by rfl) (by rfl)) (by rfl) (by trivial)) (@zaf _ _ _ _ _ (@zaq _ _ 2 _ _ _ _ scMr.nd rfl (.inl rfl) (@zao _ _ _ _ _ _ _ _ zbi (@zau _ _ _ _ _ _ _ _ _ zay (by rfl) G.len YT (@zaa _ _ _ _ _ (@qv _ 1 _ _ (by trivial)) zad (by rfl)) (by decide) (by decide) (by rfl) (by rfl)) zah) (by rfl) (by trivial)) (@zai _ _ _ (@zap _ _ _ _ (@zal _ _ _ _ _ _ _ _ _ _ _ _ _ _ _ _ g.ok l (by rfl) g.m g.kp g.b .nil zaw (@zaa _ _ _ _ _ (@qv _ 1 _ _ (by trivial)) (@zaa _ _ _ _ _ (@zal _ _ _ _ _ _ _ _ _ _ _ _ _ _ _ _ d.ok i (by rfl) d.m d.kp d.b .nil zaw (@zaa _ _ _ _ _ (@zbn _ _ _ _ _ _ _ _ _ _ zim (@qv _ 1 _ _ (by trivial)) zbv (@zaO _ _ _ (@qv _ 2 _ _ (by trivial)))) (@zaa _ _ _ _ _ (@zbn _ _ _ _ _ _ _ _ _ _ zim (@qv _ 1 _ _ (by trivial)) (@zaO _ _ _ (@qv _ 2 _ _ (by trivial))) zbv) zad (by rfl)) (by rfl)) (by decide) (by rfl) (by rfl)) zad (by rfl)) (by rfl)) (by decide) (by rfl) (by rfl)))))),?_⟩;refine⟨_,rfl,k+1,rfl,by lia,λp x=>?_⟩;have s1:=zac x (.lst (nums (List.range (2 ^ (k+1)))));have h1:=zbk x (.lst (nums (List.range (2 ^ (k+1)))));have C:(List.range (2 ^ (k+1))).length=2 ^ (k+1):=YG;obtain⟨t1,t2,z⟩:=zj8 C;have nl:=zav (List.range (2 ^ (k+1)));refine⟨_,rfl,p,_,rfl,.inl (SqL.of h1),_,_,rfl,rfl,⟨by decide,by decide⟩,?_⟩;have U:(((nums (List.range (2 ^ (k+1)))).length:Nat):Int) / 2=((2 ^ k:Nat):Int):=by rw[nl,<- t1];lia
 simp only[U];have v:2 ^ k<=(List.range (2 ^ (k+1))).length:=by rw[<- t1];exact z
 refine⟨_,rfl,_,rfl,_,rfl,_,rfl,p,_,rfl,SqL.of h1,λp2 b=>?_⟩;rw[znK _ _ v];have s2:=zac b (.lst (nums ((List.range (2 ^ (k+1))).take (2 ^ k))));refine⟨_,rfl,_,rfl,_,rfl,p,_,rfl,SqL.of (s2 _ _ h1),λI a=>?_⟩;rw[znL _ _ v];have t:=zac a (.lst (nums ((List.range (2 ^ (k+1))).drop (2 ^ k))));have l2:((List.range (2 ^ (k+1))).take (2 ^ k)).length=2 ^ k:=by rw[JE];lia
 have J:((List.range (2 ^ (k+1))).drop (2 ^ k)).length=2 ^ k:=by rw[Zd];lia
 refine⟨k,by lia,p2,I,_,_,rfl,t _ _ (zbk b _),zbk a _,l2,J,by lia,λc lf le ps X B O M pr N=>?_⟩;have r:=(s2.trans t).trans B;have y:(⟨(List.range (2 ^ (k+1))).length,(mergeN k ((List.range (2 ^ (k+1))).take (2 ^ k)) ((List.range (2 ^ (k+1))).drop (2 ^ k))).1,(mergeN k ((List.range (2 ^ (k+1))).take (2 ^ k)) ((List.range (2 ^ (k+1))).drop (2 ^ k))).2⟩:Nt)=zby k:=by rw[YG];rfl
 refine⟨p,c,lf,le,ps,_,List.range (2 ^ (k+1)),_,rfl,r _ _ h1,O,M,pr,N,by rw[y];exact zgP L,λD n o j H' s' u=>?_⟩;rw[y]at u;exact q D n o j H' ((s1.trans r).trans s') u
end
end K64
namespace Bn
open PySem L2 Own
theorem zdL (N:Nt):(zcg N).forks.length=N.forks.length:=(zcB N).length_eq
end Bn
namespace K64
open PySem L2 Own Bn
abbrev zl6:Stmt:=top 42
def zif:Sp:=λvs H Q _=>∃ l:Addr,vs=[.ref l]/\PkAt H l/\∀ r fr er ps N H',Nt.Ok N->N.lanes%2=0->NetAt H' r fr er ps N->PkAt H' l->But l H H'->Q (.ref r) H'
theorem zm4 (v:Nat) (x:V) (h:([V.int 2,.int 4,.int 4,.int 6]:List V)[v]?=some x):∃ n:Nat,x=.int (n:Nat)/\1<=n/\n<=16/\n%2=0:=by
 match v,h with
 | 0,h=>cases h;exact⟨2,rfl,by decide,by decide,by decide⟩
 | 1,h=>cases h;exact⟨4,rfl,by decide,by decide,by decide⟩
 | 2,h=>cases h;exact⟨4,rfl,by decide,by decide,by decide⟩
 | 3,h=>cases h;exact⟨6,rfl,by decide,by decide,by decide⟩
theorem zkq (v:Nat) (x:V) (h:([V.int 1,.int 2,.int 2,.int 3]:List V)[v]?=some x):∃ n:Nat,x=.int ((n+1:Nat):Int)/\n<3:=by
 match v,h with
 | 0,h=>cases h;exact⟨0,rfl,by decide⟩
 | 1,h=>cases h;exact⟨1,rfl,by decide⟩
 | 2,h=>cases h;exact⟨1,rfl,by decide⟩
 | 3,h=>cases h;exact⟨2,rfl,by decide⟩
theorem zdQ:∀ k,k<4->(zby k).forks.length<=32/\0<(zby k).forks.length/\(zby k).lanes=2 ^ (k+1):=by decide +kernel
def FewAt (H:Hp) (n:Nat) (x:V):Prop:=∃ t b a,x=.ref t/\H t=some (.tup b)/\Prs H b a/\a.length<=2/\∀ f∈a,f.1<n/\f.2<n/\f.1≠f.2
theorem FewAt.tups {H H':Hp}{n:Nat}{x:V}(t:Tups H H'):FewAt H n x->FewAt H' n x
 | ⟨a,b,c,e,h,p,r⟩=>⟨a,b,c,e,t _ _ h,p.tups t,r⟩
theorem Prs.cut {H:Hp}:∀ {ps:List V}{fs:List Fk}(k:Nat),Prs H ps fs->Prs H (ps.take k) (fs.take k)/\Prs H (ps.drop k) (fs.drop k)
 | [],[],k,_=>by simp[Prs]
 | p::ps,f::fs,0,h=>⟨trivial,h⟩
 | p::ps,f::fs,k+1,⟨x,h⟩=>⟨⟨x,(Prs.cut k h).1⟩,(Prs.cut k h).2⟩
theorem zki {n:Nat}{es:List Nat}(h:es.Perm (List.range n)):(es.drop 1++es.take 1).Perm (List.range n):=by
 refine List.Perm.trans ?_ h;refine(ZD).trans ?_;rw[ZC]
section
variable {P:Program}{w:World}{K:PySem.W.Frag}{mg:Str->Option Value}{base:Heap}
theorem scMq:FnScope ["_law_left_here","_law_lanes","_law_forks","_law_ends_here","_law_at","_law_one","_law_some"] ["_law_left_here"] (zaj zl6):=by trivial
theorem zmx {f fK fO fN fM:Addr}{fd dK dO dN dM:FuncData}(F:Fun K "_law_merging_net" "_law_merging_net" zl6 f fd) (G:Mgs mg) (t:Use P w K mg base "_law_pick" ["_law_left_here","_law_many"] 1 zc3 fK dK) (p:Use P w K mg base "_law_of" ["_law_left_here","_law_some"] 2 spOf fO dO) (UN:Use P w K mg base "_law_net" ["_law_left_here","_law_lanes","_law_most"] 3 (zie 6) fN dN)
  (UM:Use P w K mg base "merger" ["k"] 7 zd5 fM dM):FnOk P w K mg base CX0 8 f fd ["_law_left_here"] zif:=by
 refine F.ok scMq (λvs H Q E h=>?_) (λcdv A outer s H vs Q E hr h=>?_)
 ·obtain⟨l,rfl,_⟩:=h
  rfl
 obtain⟨l,rfl,S,k⟩:=h;have ab:Room 1 _:=hr.mono (by decide);have aa:Room 2 _:=hr.mono (by decide);have aH:Room 3 _:=hr.mono (by decide);refine⟨_,(@zaf _ _ _ _ _ (@zbw _ _ _ _ _ _ _ _ (@zaE _ _ _ _ _ _ _ _ zen (@zal _ _ _ _ _ _ _ _ _ _ _ _ _ _ _ _ t.ok ab (by rfl) t.m t.kp t.b .nil zaw (@zaa _ _ _ _ _ (@qv _ 0 _ _ (by trivial)) (@zaa _ _ _ _ _ zah zad (by rfl)) (by rfl)) (by decide) (by rfl) (by rfl)) zah (zaR _)) (@zai _ _ _ (@zap _ _ _ _ (@zal _ _ _ _ _ _ _ _ _ _ _ _ _ _ _ _ UN.ok aH (by rfl) UN.m UN.kp UN.b .nil zaw (@zaa _ _ _ _ _ (@qv _ 0 _ _ (by trivial)) (@zaa _ _ _ _ _ (@zal _ _ _ _ _ _ _ _ _ _ _ _ _ _ _ _ p.ok aa (by rfl) p.m p.kp p.b .nil zaw (@zaa _ _ _ _ _ (@qv _ 0 _ _ (by trivial)) (@zaa _ _ _ _ _ (@zba _ _ _ _ (@zaa _ _ _ _ _ zah (@zaa _ _ _ _ _ zah (@zaa _ _ _ _ _ zah (@zaa _ _ _ _ _ zah zad (by rfl)) (by rfl)) (by rfl)) (by rfl))) zad (by rfl)) (by rfl)) (by decide) (by rfl) (by rfl)) (@zaa _ _ _ _ _ zah zad (by rfl)) (by rfl)) (by rfl)) (by decide) (by rfl) (by rfl)))) zaI) (@zaf _ _ _ _ _ (@zaT _ _ _ _ _ _ (@zal _ _ _ _ _ _ _ _ _ _ _ _ _ _ _ _ UM.ok hr (by rfl) UM.m UM.kp UM.b .nil zaw (@zaa _ _ _ _ _ (@zal _ _ _ _ _ _ _ _ _ _ _ _ _ _ _ _ p.ok aa (by rfl) p.m p.kp p.b .nil zaw (@zaa _ _ _ _ _ (@qv _ 0 _ _ (by trivial)) (@zaa _ _ _ _ _ (@zba _ _ _ _ (@zaa _ _ _ _ _ zah (@zaa _ _ _ _ _ zah (@zaa _ _ _ _ _ zah (@zaa _ _ _ _ _ zah zad (by rfl)) (by rfl)) (by rfl)) (by rfl))) zad (by rfl)) (by rfl)) (by decide) (by rfl) (by rfl)) zad (by rfl)) (by decide) (by rfl) (by rfl)) (@zaV _ _ _ _ _ _ rfl (@zam _ _ _ _ _ (@zak _ _ 1 _ scMq.nd rfl (.inl rfl) (by trivial)) (@zam _ _ _ _ _ (@zak _ _ 2 _ scMq.nd rfl (.inl rfl) (by trivial)) (@zam _ _ _ _ _ (@zak _ _ 3 _ scMq.nd rfl (.inl rfl) (by trivial)) zaF (by rfl)) (by rfl)) (by rfl)) (by rfl) (by rfl)) (by rfl) (by rfl) (by rfl)) (@zaf _ _ _ _ _ (@zaq _ _ 4 _ _ _ _ scMq.nd rfl (.inl rfl) (@zal _ _ _ _ _ _ _ _ _ _ _ _ _ _ _ _ t.ok ab (by rfl) t.m t.kp t.b .nil zaw (@zaa _ _ _ _ _ (@qv _ 0 _ _ (by trivial)) (@zaa _ _ _ _ _ (@zau _ _ _ _ _ _ _ _ _ zay (by rfl) G.len YT (@zaa _ _ _ _ _ (@qv _ 2 _ _ (by trivial)) zad (by rfl)) (by decide) (by decide) (by rfl) (by rfl)) zad (by rfl)) (by rfl)) (by decide) (by rfl) (by rfl)) (by rfl) (by trivial)) (@zaf _ _ _ _ _ (@zaq _ _ 5 _ _ _ _ scMq.nd rfl (.inl rfl) (@zaP _ _ _ _ _ _ _ zbc (@qv _ 2 _ _ (by trivial)) (@qv _ 4 _ _ (by trivial)) (λ_ _=>rfl)) (by rfl) (by trivial)) (@zaf _ _ _ _ _ (@zaq _ _ 6 _ _ _ _ scMq.nd rfl (.inl rfl) (@zba _ _ _ _ (@zaa _ _ _ _ _ (@zaB _ _ _ _ _ (@zaa _ _ _ _ _ (@qv _ 5 _ _ (by trivial)) zad (by rfl))) (@zaa _ _ _ _ _ (@zaB _ _ _ _ _ (@zaa _ _ _ _ _ (@qv _ 5 _ _ (by trivial)) zad (by rfl))) (@zaa _ _ _ _ _ (@zaB _ _ _ _ _ (@zaa _ _ _ _ _ (@ziF _ _ _ _ _ _ _ (@qv _ 5 _ _ (by trivial)) (@zaO _ _ _ (@zku _ _ _ _ _ _ zgs zah))) zad (by rfl))) (@zaa _ _ _ _ _ (@zaB _ _ _ _ _ zad) (@zaa _ _ _ _ _ (@zaB _ _ _ _ _ (@zaa _ _ _ _ _ (@qv _ 5 _ _ (by trivial)) (@zaa _ _ _ _ _ (@qv _ 5 _ _ (by trivial)) zad (by rfl)) (by rfl))) (@zaa _ _ _ _ _ (@zaB _ _ _ _ _ (@zaa _ _ _ _ _ (@qv _ 5 _ _ (by trivial)) (@zaa _ _ _ _ _ (@ziF _ _ _ _ _ _ _ (@qv _ 5 _ _ (by trivial)) (@zaO _ _ _ (@zku _ _ _ _ _ _ zgs zah))) zad (by rfl)) (by rfl))) zad (by rfl)) (by rfl)) (by rfl)) (by rfl)) (by rfl)) (by rfl))) (by rfl) (by trivial)) (@zaf _ _ _ _ _ (@zaq _ _ 2 _ _ _ _ scMq.nd rfl (.inl rfl) (@zao _ _ _ _ _ _ _ _ zb4 (@zao _ _ _ _ _ _ _ _ zb4 (@zbn _ _ _ _ _ _ _ _ _ _ zcy (@qv _ 2 _ _ (by trivial)) zbv (@zaO _ _ _ (@qv _ 4 _ _ (by trivial)))) (@zal _ _ _ _ _ _ _ _ _ _ _ _ _ _ _ _ p.ok aa (by rfl) p.m p.kp p.b .nil zaw (@zaa _ _ _ _ _ (@qv _ 0 _ _ (by trivial)) (@zaa _ _ _ _ _ (@qv _ 6 _ _ (by trivial)) zad (by rfl)) (by rfl)) (by decide) (by rfl) (by rfl))) (@zbn _ _ _ _ _ _ _ _ _ _ zcy (@qv _ 2 _ _ (by trivial)) (@zaO _ _ _ (@zao _ _ _ _ _ _ _ _ zaJ (@qv _ 4 _ _ (by trivial)) zah)) zbv)) (by rfl) (by trivial)) (@zaf _ _ _ _ _ (@zbw _ _ _ _ _ _ _ _ (@zaE _ _ _ _ _ _ _ _ zen (@zal _ _ _ _ _ _ _ _ _ _ _ _ _ _ _ _ t.ok ab (by rfl) t.m t.kp t.b .nil zaw (@zaa _ _ _ _ _ (@qv _ 0 _ _ (by trivial)) (@zaa _ _ _ _ _ zah zad (by rfl)) (by rfl)) (by decide) (by rfl) (by rfl)) zah (zaR _)) (@zai _ _ _ (@zaq _ _ 3 _ _ _ _ scMq.nd rfl (.inl rfl) (@zao _ _ _ _ _ _ _ _ zb4 (@zbn _ _ _ _ _ _ _ _ _ _ zcy (@qv _ 3 _ _ (by trivial)) (@zaO _ _ _ zah) zbv) (@zbn _ _ _ _ _ _ _ _ _ _ zcy (@qv _ 3 _ _ (by trivial)) zbv (@zaO _ _ _ zah))) (by rfl) (by trivial))) zaI) (@zai _ _ _ (@zap _ _ _ _ (@zaB _ _ _ _ _ (@zaa _ _ _ _ _ (@qv _ 1 _ _ (by trivial)) (@zaa _ _ _ _ _ (@qv _ 2 _ _ (by trivial)) (@zaa _ _ _ _ _ (@qv _ 3 _ _ (by trivial)) zad (by rfl)) (by rfl)) (by rfl)))))))))))),?_⟩
 have T:∀ {H:Hp}{q:Addr},PkAt H l->H q=none->q≠l:=λ{H q} S U=>by
  obtain⟨_,_,h,_⟩:=S.ex;exact(zae h U).symm
 refine⟨_,rfl,l,3,rfl,by decide,by decide,S,λx H1 hx S1 B1=>⟨rfl,_,rfl,?_⟩⟩;by_cases c:V.int ((x:Nat):Int)=V.int 0
 ·rw[JG c]
  refine iteT ⟨_,rfl,_,rfl,(by show 4<=sizeLine;decide),λq U=>?_⟩;have s2:=zac U (.lst [V.int 2,.int 4,.int 4,.int 6]);refine⟨l,q,_,rfl,S1.keep s2,T S1 U,zab,(by show 0<4;decide),(by show 4<=100000;decide),λi y H3 hy S3 B3=>?_⟩;obtain⟨n,rfl,n1,ay,ne⟩:=zm4 i y hy;refine⟨l,n,rfl,S3,n1,ay,λr fr er ps N H4 ok ln fm na S4 B4=>?_⟩;exact k r fr er ps N H4 ok (by rw[ln];exact ne) na S4 (((B1.trans (But.of s2)).trans B3).trans B4)
 rw[Jv c];refine iteF ⟨_,rfl,(by show 4<=sizeLine;decide),λq U=>?_⟩;have s2:=zac U (.lst [V.int 1,.int 2,.int 2,.int 3]);refine⟨l,q,_,rfl,S1.keep s2,T S1 U,zab,(by show 0<4;decide),(by show 4<=100000;decide),λi y H3 hy S3 B3=>?_⟩;obtain⟨n,rfl,n3⟩:=zkq i y hy;have n4:n<4:=by lia
 refine⟨n,rfl,n4,λr fr er ps H4 s4 na=>?_⟩;have S4:=S3.keep s4;have B4:=((B1.trans (But.of s2)).trans B3).trans (But.of s4:But l H3 H4);have ok:=zkr (zgP n4)
 have fm:(zcg (zby n)).forks.length<=100:=by
  obtain⟨m1,_,_⟩:=zdQ n n4;rw[zdL];lia
 have f0:0<(zcg (zby n)).forks.length:=by
  obtain⟨_,m2,_⟩:=zdQ n n4;rw[zdL];lia
 have lev:(zcg (zby n)).lanes%2=0:=by
  show 2 ^ (n+1)%2=0;rw[Wq];lia
 generalize zcg (zby n)=N at ok na fm f0 lev;refine⟨r,_,rfl,SqT.of na.net,rfl,_,_,rfl,_,_,rfl,_,_,rfl,rfl,?_⟩;have pl:=na.prs.len;refine⟨_,rfl,_,rfl,fr,_,rfl,.inr (SqT.of na.forks),l,_,rfl,by lia,by lia,S4,λv H5 hv S5 B5=>?_⟩;have vl:v<N.forks.length:=by lia
 have Z:=na.tups (B5.tups S4);obtain⟨g,f1,eg,ef,hg⟩:=Z.prs.get (i:=v) (J6 (show v<ps.length by lia));have aN:ps[v]?=some (.ref g):=by rw[J6 (show v<ps.length by lia),eg]
 have e:=ok.fk f1 (JP ef);refine⟨_,rfl,_,rfl,fr,_,_,_,rfl,rfl,SqT.of Z.forks,zb6 aN,?_⟩;refine⟨_,rfl,(by show 1<=sizeLine;decide),λt1 aG=>?_⟩;have a1:=zac aG (.tup [.ref g]);refine⟨_,rfl,(by show 1<=sizeLine;decide),λt2 aF=>?_⟩;have a2:=zac aF (.tup [.ref g]);refine⟨_,rfl,_,rfl,_,rfl,rfl,g,_,_,rfl,SqT.of (a2 _ _ (a1 _ _ hg)),λO aM=>?_⟩;have a3:=zac aM (.tup [.int (f1.2:Nat),.int (f1.1:Nat)]);refine⟨(by show 1<=sizeLine;decide),λL aE=>?_⟩;have a4:=zac aE (.tup [.ref O]);refine⟨(by show 0<=sizeLine;decide),λJ aD=>?_⟩;have a5:=zac aD (.tup []);refine⟨_,rfl,_,rfl,(by show 2<=sizeLine;decide),λI aC=>?_⟩;have a6:=zac aC (.tup [.ref g,.ref g]);have u6:=(((((a1.trans a2).trans a3).trans a4).trans a5).trans a6);refine⟨_,rfl,_,rfl,_,rfl,_,rfl,rfl,g,_,_,rfl,SqT.of (u6 _ _ hg),λM aL=>?_⟩;have W:=zac aL (.tup [.int (f1.2:Nat),.int (f1.1:Nat)]);refine⟨(by show 2<=sizeLine;decide),λD aB=>?_⟩;have R:=zac aB (.tup [.ref g,.ref M]);refine⟨(by show 6<=sizeLine;decide),λls aK=>?_⟩;have B:=zac aK (.lst [.ref t1,.ref t2,.ref L,.ref J,.ref I,.ref D]);have u9:=((u6.trans W).trans R).trans B;have j:=zab (H:=L2.upd (L2.upd (L2.upd (L2.upd (L2.upd (L2.upd (L2.upd (L2.upd H5 t1 (.tup [.ref g])) t2 (.tup [.ref g])) O (.tup [.int (f1.2:Nat),.int (f1.1:Nat)])) L (.tup [.ref O])) J (.tup [])) I (.tup [.ref g,.ref g])) M (.tup [.int (f1.2:Nat),.int (f1.1:Nat)])) D (.tup [.ref g,.ref M])) (a:=ls) (o:=.lst [.ref t1,.ref t2,.ref L,.ref J,.ref I,.ref D]);have w1:=B _ _ (R _ _ (W _ _ (a6 _ _ (a5 _ _ (a4 _ _ (a3 _ _ (a2 _ _ (zab (H:=H5) (a:=t1) (o:=.tup [.ref g])))))))));have w2:=B _ _ (R _ _ (W _ _ (a6 _ _ (a5 _ _ (a4 _ _ (a3 _ _ (zab (H:=L2.upd H5 t1 (.tup [.ref g])) (a:=t2) (o:=.tup [.ref g]))))))));have w3:=B _ _ (R _ _ (W _ _ (a6 _ _ (a5 _ _ (a4 _ _ (zab (a:=O) (o:=.tup [.int (f1.2:Nat),.int (f1.1:Nat)])))))));have w4:=B _ _ (R _ _ (W _ _ (a6 _ _ (a5 _ _ (zab (a:=L) (o:=.tup [.ref O]))))));have w5:=B _ _ (R _ _ (W _ _ (a6 _ _ (zab (a:=J) (o:=.tup [])))));have w6:=B _ _ (R _ _ (W _ _ (zab (a:=I) (o:=.tup [.ref g,.ref g]))));have w7:=B _ _ (R _ _ (zab (a:=M) (o:=.tup [.int (f1.2:Nat),.int (f1.1:Nat)])));have w8:=B _ _ (zab (a:=D) (o:=.tup [.ref g,.ref M]));have m:=u9 _ _ hg;have Y:=Z.tups (Tups.of u9);have S9:=S5.keep u9;have B9:=B4.trans (B5.trans (But.of u9));generalize L2.upd (L2.upd (L2.upd (L2.upd (L2.upd (L2.upd (L2.upd (L2.upd (L2.upd H5 t1 (.tup [.ref g])) t2 (.tup [.ref g])) O (.tup [.int (f1.2:Nat),.int (f1.1:Nat)])) L (.tup [.ref O])) J (.tup [])) I (.tup [.ref g,.ref g])) M (.tup [.int (f1.2:Nat),.int (f1.1:Nat)])) D (.tup [.ref g,.ref M])) ls (.lst [.ref t1,.ref t2,.ref L,.ref J,.ref I,.ref D])=H9 at u9 j w1 w2 w3 w4 w5 w6 w7 w8 m Y S9 B9;have ai:(f1.2,f1.1).1<N.lanes/\(f1.2,f1.1).2<N.lanes/\(f1.2,f1.1).1≠(f1.2,f1.1).2:=⟨e.2.1,e.1,λz=>e.2.2 z.symm⟩
 have few:∀ x∈[V.ref t1,.ref t2,.ref L,.ref J,.ref I,.ref D],FewAt H9 N.lanes x:=λx hx=>by
  simp only[Jh,Y0,Je]at hx;rcases hx with rfl|rfl|rfl|rfl|rfl|rfl
  ·exact⟨t1,_,[f1],rfl,w1,⟨⟨g,rfl,m⟩,trivial⟩,(by show 1<=2;decide),λf d=>by rw[Jd.mp d];exact e⟩
  ·exact⟨t2,_,[f1],rfl,w2,⟨⟨g,rfl,m⟩,trivial⟩,(by show 1<=2;decide),λf d=>by rw[Jd.mp d];exact e⟩
  ·exact⟨L,_,[(f1.2,f1.1)],rfl,w4,⟨⟨O,rfl,w3⟩,trivial⟩,(by show 1<=2;decide),λf d=>by rw[Jd.mp d];exact ai⟩
  ·exact⟨J,_,[],rfl,w5,trivial,(by show 0<=2;decide),λf d=>by simp at d⟩
  ·refine⟨I,_,[f1,f1],rfl,w6,⟨⟨g,rfl,m⟩,⟨g,rfl,m⟩,trivial⟩,(by show 2<=2;decide),λf d=>?_⟩
   simp only[Jh,Je,Y0]at d;rcases d with rfl|rfl<;>exact e
  ·refine⟨D,_,[f1,(f1.2,f1.1)],rfl,w8,⟨⟨g,rfl,m⟩,⟨M,rfl,w7⟩,trivial⟩,(by show 2<=2;decide),λf d=>?_⟩
   simp only[Jh,Je,Y0]at d;rcases d with rfl|rfl
   ·exact e
   ·exact ai
 refine⟨_,rfl,_,rfl,_,rfl,fr,ps,rfl,Y.forks,λpa Ha sa ao=>?_⟩;rw[zcV _ _ (by lia)]at ao
 have az:ls≠l:=λz=>by
  obtain⟨_,_,h,_⟩:=S9.ex;rw[z,h]at j;cases j
 refine⟨_,rfl,_,rfl,l,ls,_,rfl,S9.keep sa,az,sa _ _ j,(by show 0<6;decide),(by show 6<=100000;decide),λiu u Hu hu Su Bu=>?_⟩;have tu:Tups Ha Hu:=Bu.tups (S9.keep sa);obtain⟨tt,qs,gs,rfl,aA,ah,gl,aO⟩:=((few u (JP hu)).tups (Tups.of sa)).tups tu;have C:=(Y.tups (Tups.of sa)).tups tu;have ae:=tu _ _ ao;have ql:=ah.len;refine⟨pa,tt,_,_,rfl,rfl,ae,aA,by rw[JE,JM];lia,λpb Hb sb aJ=>?_⟩;refine⟨_,rfl,_,rfl,_,_,rfl,rfl,_,rfl,fr,ps,rfl,sb _ _ C.forks,λpc Hc sc ak=>?_⟩;have aP:((v:Nat):Int)+1=((v+1:Nat):Int):=by lia
 rw[aP,zcW _ _ (by lia)]at ak;refine⟨pb,pc,_,_,rfl,rfl,sc _ _ aJ,ak,by rw[Jn,JE,Zd,JM];lia,λpd Hd sd aI=>?_⟩;have ud:=(sb.trans sc).trans sd
 have prs:Prs Hd ((ps.take v++qs)++ps.drop (v+1)) ((N.forks.take v++gs)++N.forks.drop (v+1)) :=
  Prs.app (Prs.app ((Prs.cut v C.prs).1.tups (Tups.of ud)) (ah.tups (Tups.of ud))) ((Prs.cut (v+1) C.prs).2.tups (Tups.of ud))
 have au:∀ f∈(N.forks.take v++gs)++N.forks.drop (v+1),f.1<N.lanes/\f.2<N.lanes/\f.1≠f.2:=λf d=>by
  rcases Jx.mp d with z|z
  ·rcases Jx.mp z with y|y
   ·exact ok.fk f (Wc y)
   ·exact aO f y
  ·exact ok.fk f (List.mem_of_mem_drop z)
 have av:((N.forks.take v++gs)++N.forks.drop (v+1)).length<=128:=by rw[Jn,Jn,JE,Zd];lia
 have ax:=C.tups (Tups.of ud);have Sd:=Su.keep ud;have Bd:=B9.trans (((But.of sa).trans Bu).trans (But.of ud));have el:N.ends.length=N.lanes:=by rw[ok.en.length_eq,YG]
 have l16:=ok.l16;have l1:=ok.l1;refine⟨_,rfl,l,8,rfl,by decide,by decide,Sd,λz He hz Se Be=>⟨rfl,_,rfl,?_⟩⟩;have X:=ax.tups (Be.tups Sd);have aj:=Be.tups Sd _ _ aI;have pre:=prs.tups (Be.tups Sd);by_cases c2:V.int ((z:Nat):Int)=V.int 0
 ·rw[JG c2]
  refine iteT ⟨_,rfl,_,rfl,er,_,rfl,X.ends,λp1 H1 ag ar=>?_⟩;have e1:cutV (nums N.ends) (some 1) none=nums (N.ends.drop 1):=by rw[show (some (1:Int))=some (((1:Nat)):Int) from rfl,zcW _ 1 (by rw[zav];lia)];unfold nums;rw[List.map_drop]
  rw[e1]at ar;refine⟨_,rfl,_,rfl,er,_,rfl,ag _ _ X.ends,λp2 H2 af aq=>?_⟩;have e2:cutV (nums N.ends) none (some 1)=nums (N.ends.take 1):=by rw[show (some (1:Int))=some (((1:Nat)):Int) from rfl,zcV _ 1 (by rw[zav];lia)];unfold nums;rw[List.map_take]
  rw[e2]at aq;refine⟨p1,p2,_,_,rfl,rfl,af _ _ ar,aq,by rw[zav,zav,Zd,JE,JM];lia,λp3 aQ aw ap=>?_⟩;have e3:nums (N.ends.drop 1)++nums (N.ends.take 1)=nums (N.ends.drop 1++N.ends.take 1):=by unfold nums;rw[JN]
  rw[e3]at ap;have u3:=(ag.trans af).trans aw;refine⟨_,rfl,_,rfl,_,rfl,(by show 3<=sizeLine;decide),λr' ad=>?_⟩;have b:=zac ad (.tup [.int (N.lanes:Nat),.ref pd,.ref p3]);exact k r' pd p3 _ ⟨N.lanes,(N.forks.take v++gs)++N.forks.drop (v+1),N.ends.drop 1++N.ends.take 1⟩ _ ⟨l1,l16,av,au,zki ok.en⟩ lev ⟨zab,b _ _ (u3 _ _ aj),pre.tups (Tups.of (u3.trans b)),b _ _ ap⟩ (Se.keep (u3.trans b)) (Bd.trans (Be.trans (But.of (u3.trans b))))
 rw[Jv c2];refine iteF ⟨_,rfl,_,rfl,_,rfl,(by show 3<=sizeLine;decide),λr' ad=>?_⟩;have b:=zac ad (.tup [.int (N.lanes:Nat),.ref pd,.ref er]);exact k r' pd er _ ⟨N.lanes,(N.forks.take v++gs)++N.forks.drop (v+1),N.ends⟩ _ ⟨l1,l16,av,au,ok.en⟩ lev ⟨zab,b _ _ aj,pre.tups (Tups.of b),b _ _ X.ends⟩ (Se.keep b) (Bd.trans (Be.trans (But.of b)))
end
abbrev zl8:Stmt:=top 8
abbrev zfN:Stmt:=top 9
section
variable {P:Program}{w:World}{K:PySem.W.Frag}{mg:Str->Option Value}{base:Heap}
theorem scF:FnScope ["net","counts","on_lanes","turns","one","other","come"] ["net","counts"] (zaj zfN):=by trivial
theorem ziP {f:Addr}{fd:FuncData}(F:Fun K "flowed" "flowed" zfN f fd) (G:Mgs mg):FnOk P w K mg base CX0 1 f fd ["net","counts"] zd8:=by
 refine F.ok scF (λvs H Q E h=>?_) (λcdv A outer s H vs Q E J h=>?_)
 ·obtain⟨r,fr,er,ps,N,c,cs,rfl,_⟩:=h
  rfl
 obtain⟨r,fr,er,ps,N,c,cs,rfl,ok,na,C,cl,k⟩:=h;refine⟨_,(@zaf _ _ _ _ _ (@zaq _ _ 2 _ _ _ _ scF.nd rfl (.inl rfl) (@zat _ _ _ _ _ _ _ _ _ zbr (by rfl) G.list (by rfl) (@zaa _ _ _ _ _ (@qv _ 1 _ _ (by trivial)) zad (by rfl)) (by decide) (by decide) (by rfl) (by rfl)) (by rfl) (by trivial)) (@zaf _ _ _ _ _ (@zaq _ _ 3 _ _ _ _ scF.nd rfl (.inl rfl) (@zba _ _ _ _ zad) (by rfl) (by trivial)) (@zaf _ _ _ _ _ (@zbx _ _ _ _ _ _ _ _ Yx rfl (@zdb _ _ _ _ (@zaP _ _ _ _ _ _ _ zbc (@qv _ 0 _ _ (by trivial)) zah (λ_ _=>rfl))) (@zaV _ _ _ _ _ _ rfl (@zam _ _ _ _ _ (@zak _ _ 4 _ scF.nd rfl (.inl rfl) (by trivial)) (@zam _ _ _ _ _ (@zak _ _ 5 _ scF.nd rfl (.inl rfl) (by trivial)) zaF (by rfl)) (by rfl)) (by rfl) (by rfl)) (@zaf _ _ _ _ _ (@zaq _ _ 6 _ _ _ _ scF.nd rfl (.inl rfl) (@zao _ _ _ _ _ _ _ _ zaJ (@zaP _ _ _ _ _ _ _ zaK (@qv _ 2 _ _ (by trivial)) (@qv _ 4 _ _ (by trivial)) (λ_ _=>rfl)) (@zaP _ _ _ _ _ _ _ zaK (@qv _ 2 _ _ (by trivial)) (@qv _ 5 _ _ (by trivial)) (λ_ _=>rfl))) (by rfl) (by trivial)) (@zaf _ _ _ _ _ (@zaT _ _ _ _ _ _ (@zao _ _ _ _ _ _ _ _ zbi (@zao _ _ _ _ _ _ _ _ zaJ (@qv _ 6 _ _ (by trivial)) zah) zah) (@zch _ _ _ _ _ _ _ (@qv _ 2 _ _ (by trivial)) (@qv _ 4 _ _ (by trivial)) zbd (by intro _;rfl)) (by rfl) (by rfl) (by rfl)) (@zaf _ _ _ _ _ (@zaT _ _ _ _ _ _ (@zao _ _ _ _ _ _ _ _ zbi (@qv _ 6 _ _ (by trivial)) zah) (@zch _ _ _ _ _ _ _ (@qv _ 2 _ _ (by trivial)) (@qv _ 5 _ _ (by trivial)) zbd (by intro _;rfl)) (by rfl) (by rfl) (by rfl)) (@zai _ _ _ (@zbg _ _ _ _ (@zdc _ _ _ _ _ _ _ _ _ _ _ _ Yp YJ YK zaW (@qv _ 3 _ _ (by trivial)) (@zaa _ _ _ _ _ (@zao _ _ _ _ _ _ _ _ zbh (@qv _ 6 _ _ (by trivial)) zah) zad (by rfl)) (by rfl) (by rfl) (by rfl) (by rfl) (by rfl)) (by rfl)))))) (by intro _;rfl)) (@zai _ _ _ (@zap _ _ _ _ (@zaB _ _ _ _ _ (@zaa _ _ _ _ _ (@qv _ 2 _ _ (by trivial)) (@zaa _ _ _ _ _ (@qv _ 3 _ _ (by trivial)) zad (by rfl)) (by rfl)))))))),?_⟩;refine⟨_,rfl,c,_,rfl,.inr (SqT.of C),λlo l=>?_⟩;have s1:=zac l (.lst (cs.map V.int));refine⟨(by show 0<=sizeLine;decide),λlt j=>?_⟩;have s2:=s1.trans (zac j (.lst []));have ne:lo≠lt:=zae zab j;refine⟨_,rfl,r,_,_,_,rfl,rfl,SqT.of (s2 _ _ na.net),rfl,fr,rfl,⟨_,SqT.of (s2 _ _ na.forks)⟩,?_⟩
 refine zet (K:=K) (a:=fr) (xs:=ps) (λi σ d=>(∃ x v u,σ=[some (.ref r),some (.ref c),some (.ref lo),some (.ref lt),x,v,u])/\Same H d/\d lo=some (.lst ((flow (N.forks.take i) cs).1.map V.int))/\d lt=some (.lst ((flow (N.forks.take i) cs).2.map V.int)))
  ⟨⟨_,_,_,rfl⟩,s2,by rw[zag ne];exact zab,zab⟩ (λi σ d _ q=>SqT.of (q.2.1 _ _ na.forks)) ?_ ?_
 ·rintro i p σ d m ⟨⟨x,v,u,rfl⟩,n,h1,t⟩
  obtain⟨a,g,rfl,B,ha⟩:=(na.prs.tups (Tups.of n)).get m;have I:=ok.fk g (JP B);have fl:(flow (N.forks.take i) cs).1.length=N.lanes:=by rw[zbG,cl]
  have D:(flow (N.forks.take i) cs).2.length<=128:=by rw[za7,JE];have:=ok.fm;lia
  have z:=zbQ B cs;generalize flow (N.forks.take i) cs=st at *;refine⟨a,_,rfl,SqT.of ha,rfl,_,_,rfl,_,_,rfl,rfl,?_⟩;refine⟨_,rfl,_,rfl,lo,_,_,_,rfl,rfl,SqL.of h1,zbT (by lia),_,rfl,_,rfl,lo,_,_,_,rfl,rfl,SqL.of h1,zbT (by lia),_,_,rfl,rfl,?_⟩;refine⟨_,rfl,_,_,rfl,rfl,_,_,rfl,rfl,⟨by decide,by decide⟩,_,rfl,_,rfl,lo,_,_,g.1,rfl,rfl,h1,ze9 (by rw[Jm];lia),?_⟩;refine⟨_,rfl,_,_,rfl,rfl,⟨by decide,by decide⟩,_,rfl,_,rfl,lo,_,_,g.2,rfl,rfl,zab,ze9 (by rw[Z9,Jm];lia),?_⟩
  have y:upd (upd d lo (.lst ((st.1.map V.int).set g.1 (.int ((st.1.getD g.1 0+st.1.getD g.2 0+1) / 2))))) lo (.lst (((st.1.map V.int).set g.1 (.int ((st.1.getD g.1 0+st.1.getD g.2 0+1) / 2))).set g.2 (.int ((st.1.getD g.1 0+st.1.getD g.2 0) / 2)))) lt=some (.lst (st.2.map V.int)):=by
   rw[zag ne.symm,zag ne.symm];exact t
  refine⟨_,rfl,.inl ⟨rfl,_,SqL.of y⟩,_,rfl,_,_,rfl,rfl,(by show (0:Int)<2;decide),lt,_,_,rfl,rfl,y,by rw[Jm];exact Nat.lt_of_le_of_lt D (by decide),⟨_,_,_,rfl⟩,λb o e=>?_,?_,?_⟩
  ·rw[zag (zae (s1 b o e) j),zag (zae e l),zag (zae e l)];exact n b o e
  ·rw[zag ne,zab,z]
   unfold zaN;rw[zbE,zbE]
  ·rw[zab,z]
   unfold zaN;rw[JN];rfl
 ·rintro σ d ⟨⟨x,v,u,rfl⟩,n,h1,t⟩
  have e:N.forks.take ps.length=N.forks:=by rw[na.prs.len];exact Yq
  rw[e]at h1 t;exact⟨_,rfl,_,rfl,(by show 2<=sizeLine;decide),λp m=>k p lo lt _ (n.trans (zac m _)) zab (zac m _ _ _ h1) (zac m _ _ _ t)⟩
theorem scE:FnScope ["net","counts","on_lanes","turns"] ["net","counts"] (zaj zl8):=by trivial
theorem zmz {f I:Addr}{fd M:FuncData}(F:Fun K "ends_of" "ends_of" zl8 f fd) (G:Mgs mg) (n:Use P w K mg base "flowed" ["net","counts"] 1 zd8 I M):FnOk P w K mg base CX0 2 f fd ["net","counts"] zdG:=by
 refine F.ok scE (λvs H Q E h=>?_) (λcdv A outer s H vs Q E z h=>?_)
 ·obtain⟨r,fr,er,ps,N,c,cs,rfl,_⟩:=h
  rfl
 obtain⟨r,fr,er,ps,N,c,cs,rfl,ok,na,D,cl,k⟩:=h;refine⟨_,(@zaf _ _ _ _ _ (@zaT _ _ _ _ _ _ (@zal _ _ _ _ _ _ _ _ _ _ _ _ _ _ _ _ n.ok z (by rfl) n.m n.kp n.b .nil zaw (@zaa _ _ _ _ _ (@qv _ 0 _ _ (by trivial)) (@zaa _ _ _ _ _ (@qv _ 1 _ _ (by trivial)) zad (by rfl)) (by rfl)) (by decide) (by rfl) (by rfl)) (@zaV _ _ _ _ _ _ rfl (@zam _ _ _ _ _ (@zak _ _ 2 _ scE.nd rfl (.inr rfl) (by trivial)) (@zam _ _ _ _ _ (@zak _ _ 3 _ scE.nd rfl (.inl rfl) (by trivial)) zaF (by rfl)) (by rfl)) (by rfl) (by rfl)) (by rfl) (by rfl) (by rfl)) (@zai _ _ _ (@zap _ _ _ _ (@zat _ _ _ _ _ _ _ _ _ zar (by rfl) G.tuple (by rfl) (@zaa _ _ _ _ _ (@zeW _ _ _ _ none _ _ _ _ _ _ ["lane","on_lanes"] [none,some 2] rfl (@zdb _ _ _ _ (@zaP _ _ _ _ _ _ _ zbc (@qv _ 0 _ _ (by trivial)) zah (λ_ _=>rfl))) (CapOk.of (by kernel_rfl)) (λ_ _ _ _ _=>(@zak _ _ 0 _ (show (["lane","on_lanes"]:List Str).Nodup from by decide +kernel) rfl (.inl rfl) (.inr rfl))) (λ_ _ _ _ _=>zbu) (λ_ _ _ _ _=>(@zaP _ _ _ _ _ _ (rIxL K) zaK (@qv _ 1 _ _ (by trivial)) (@qv _ 0 _ _ (by trivial)) (λ_ _=>rfl))) (by intro _;rfl)) zad (by rfl)) (by decide) (by decide) (by rfl) (by rfl))))),?_⟩;refine⟨_,rfl,_,rfl,r,fr,er,ps,N,c,cs,rfl,ok,na,D,cl,λp lo lt H1 s1 C y R=>?_⟩;refine⟨p,_,rfl,SqT.of C,rfl,_,_,rfl,_,_,rfl,rfl,?_⟩;have d:=na.tups (Tups.of s1);refine⟨_,rfl,r,_,_,_,rfl,rfl,SqT.of d.net,rfl,er,rfl,⟨_,SqT.of d.ends⟩,λl t=>?_⟩;have O:lo≠l:=zae y t;refine zlB (K:=K) (a:=er) (xs:=nums N.ends) (λi acc σ g=>(∃ v,σ=[v,some (.ref lo)])/\Same H1 g/\g l=some (.lst acc)/\acc=((za3 N cs).take i).map V.int) ⟨⟨_,rfl⟩,zac t _,zab,rfl⟩ (λi acc σ g q=>⟨q.2.2.1,SqT.of (q.2.1 _ _ d.ends)⟩) ?_ ?_
 ·rintro i x acc σ g m ⟨⟨v,rfl⟩,s2,u,rfl⟩
  have j:i<N.ends.length:=by have:=(J9.mp m).1;rwa [zav]at this
  have ex:x=.int N.ends[i]:=by
   unfold nums at m;rw[JL,J6 j]at m;exact(Js m).symm
  subst ex;have lt':=zjF ok (Yr j);refine⟨_,rfl,_,rfl,lo,_,_,_,rfl,rfl,SqL.of (s2 _ _ y),zbT (by rw[zbG,cl];exact lt'),u,?_,nx (by rw[zav];exact j) ⟨⟨_,rfl⟩,λb o e=>?_,zab,?_⟩⟩
  ·rw[Jm,JE];exact Nat.lt_of_le_of_lt (Nat.min_le_left _ _) (JF (show i<1000 by have:=zg0 ok;have:=ok.l16;lia) (by decide))
  ·rw[zag (zae e t)];exact s2 b o e
  ·have J:i<(za3 N cs).length:=by unfold za3;rw[Jm];exact j
   have L:(za3 N cs)[i]=(flow N.forks cs).1.getD N.ends[i] 0:=by simp[za3]
   rw[Y7 J,JN,L];rfl
 ·rintro acc σ g ⟨⟨v,rfl⟩,s2,u,rfl⟩
  refine⟨l,_,rfl,.inl ⟨SqL.of u,λq B=>k q _ ((s1.trans s2).trans (zac B _)) ?_⟩⟩;rw[zab,zav,Yf (by unfold za3;rw[Jm];exact Jg _)]
end
abbrev zl4:Stmt:=top 20
abbrev zef:Stmt:=top 19
def zc2:Sp:=λvs H Q _=>∃ (t:Int) (m:Nat),vs=[.int t,.int m]/\1<=m/\m<=1000/\∀ p H',Same H H'->H' p=some (.tup ((zax t m).map V.int))->Q (.ref p) H'
def zc5:Sp:=λvs H Q _=>∃ (c:Addr) (cs:List Int),vs=[.ref c]/\H c=some (.tup (cs.map V.int))/\1<=cs.length/\cs.length<=1000/\∀ H',Same H H'->Q (.bl (decide (cs=zax cs.sum cs.length))) H'
section
variable {P:Program}{w:World}{K:PySem.W.Frag}{mg:Str->Option Value}{base:Heap}
theorem scSf:FnScope ["total","many"] ["total","many"] (zaj zl4):=by trivial
theorem zmu {f:Addr}{fd:FuncData}(F:Fun K "stair_of" "stair_of" zl4 f fd) (G:Mgs mg):FnOk P w K mg base CX0 1 f fd ["total","many"] zc2:=by
 refine F.ok scSf (λvs H Q E h=>?_) (λcdv A outer s H vs Q E r h=>?_)
 ·obtain⟨t,m,rfl,_⟩:=h
  rfl
 obtain⟨t,m,rfl,q,d,k⟩:=h;refine⟨_,(@zai _ _ _ (@zap _ _ _ _ (@zat _ _ _ _ _ _ _ _ _ zar (by rfl) G.tuple (by rfl) (@zaa _ _ _ _ _ (@zeW _ _ _ _ none _ _ _ _ _ _ ["place","many","total"] [none,some 1,some 0] rfl (@zaU _ _ _ _ _ _ rfl G.range (@zaa _ _ _ _ _ (@qv _ 1 _ _ (by trivial)) zad (by rfl)) (by rfl)) (CapOk.of (by kernel_rfl)) (λ_ _ _ _ _=>(@zak _ _ 0 _ (show (["place","many","total"]:List Str).Nodup from by decide +kernel) rfl (.inl rfl) (.inr rfl))) (λ_ _ _ _ _=>zbu) (λ_ _ _ _ _=>(@zao _ _ _ _ _ _ _ _ zbi (@zao _ _ _ _ _ _ _ _ zbO (@zao _ _ _ _ _ _ _ _ zaJ (@zao _ _ _ _ _ _ _ _ zbO (@qv _ 2 _ _ (by trivial)) (@qv _ 0 _ _ (by trivial))) (@qv _ 1 _ _ (by trivial))) zah) (@qv _ 1 _ _ (by trivial)))) (by intro _;rfl)) zad (by rfl)) (by decide) (by decide) (by rfl) (by rfl)))),?_⟩;refine⟨_,rfl,_,rfl,by lia,by lia,λl g=>?_⟩;refine zcj (lo:=0) (n:=((m:Nat):Int).toNat) (λi acc σ a=>(∃ v0,σ=[v0,some (.int (m:Nat)),some (.int t)])/\Same H a/\a l=some (.lst acc)/\acc=((zax t m).take i).map V.int) ⟨⟨_,rfl⟩,zac g _,zab,rfl⟩ (λi acc σ a z=>z.2.2.1) ?_ ?_
 ·rintro i acc σ a hi ⟨⟨v0,rfl⟩,s2,c,e2⟩
  have im:i<m:=by lia
  refine⟨_,rfl,_,rfl,_,_,rfl,rfl,_,rfl,_,_,rfl,rfl,_,_,rfl,rfl,_,rfl,_,_,rfl,rfl,⟨by lia,by lia⟩,c,?_,nx hi ⟨⟨_,rfl⟩,λb o e=>?_,zab,?_⟩⟩
  ·rw[e2,Jm,JE,zas,JM];lia
  ·rw[zag (zae e g)];exact s2 b o e
  ·rw[e2,za6 _ _ _ (by lia),za6 _ _ _ (by lia),List.range_succ,JN,JN]
   show _++[V.int ((t-(0+(i:Nat))+(m:Nat)-1) / (m:Nat))]=_;rw[Wr];rfl
 rintro acc σ a ⟨⟨v0,rfl⟩,s2,c,e2⟩;rw[Yt,Yf (by rw[zas];exact Jg _)]at e2;rw[e2]at c;exact⟨l,_,rfl,.inl ⟨SqL.of c,λp j=>k p _ (s2.trans (zac j _)) zab⟩⟩
theorem scIs:FnScope ["counts"] ["counts"] (zaj zef):=by trivial
theorem zhq {f i:Addr}{fd j:FuncData}(F:Fun K "is_stair" "is_stair" zef f fd) (G:Mgs mg) (b:Use P w K mg base "stair_of" ["total","many"] 1 zc2 i j):FnOk P w K mg base CX0 2 f fd ["counts"] zc5:=by
 refine F.ok scIs (λvs H Q E h=>?_) (λcdv A outer s H vs Q E e h=>?_)
 ·obtain⟨c,cs,rfl,_⟩:=h
  rfl
 obtain⟨c,cs,rfl,d,l,a,k⟩:=h;refine⟨_,(@zai _ _ _ (@zap _ _ _ _ (@zel _ _ _ _ _ _ _ _ (zlz e.units0) (@qv _ 0 _ _ (by trivial)) (@zal _ _ _ _ _ _ _ _ _ _ _ _ _ _ _ _ b.ok e (by rfl) b.m b.kp b.b .nil zaw (@zaa _ _ _ _ _ (@zau _ _ _ _ _ _ _ _ _ (zjT rfl false) (by rfl) G.sum (by rfl) (@zaa _ _ _ _ _ (@qv _ 0 _ _ (by trivial)) zad (by rfl)) (by decide) (by decide) (by rfl) (by rfl)) (@zaa _ _ _ _ _ (@zau _ _ _ _ _ _ _ _ _ zay (by rfl) G.len YT (@zaa _ _ _ _ _ (@qv _ 0 _ _ (by trivial)) zad (by rfl)) (by decide) (by decide) (by rfl) (by rfl)) zad (by rfl)) (by rfl)) (by decide) (by rfl) (by rfl)) (zaR _)))),?_⟩;refine⟨_,rfl,_,rfl,c,cs,rfl,SqT.of d,_,rfl,c,_,rfl,.inr (SqT.of d),cs.sum,cs.length,?_,l,a,λp H1 s1 g=>?_⟩
 ·rw[Jm];rfl
 refine⟨c,p,_,_,rfl,rfl,SqT.of (s1 _ _ d),SqT.of g,zcr _,zcr _,?_⟩;rw[zlI];exact k H1 s1
end
abbrev zfJ:Stmt:=top 24
abbrev zfM:Stmt:=top 43
abbrev zir:Stmt:=top 44
abbrev zee:Stmt:=top 45
def zmK (N:Nt) (m n:Int):Bool:=decide (za3 N (zax m (N.lanes / 2)++zax n (N.lanes / 2))=zax (m+n) N.lanes)
def zbV:Sp:=λvs H Q _=>∃ r fr er ps N,∃ m n:Int,vs=[.ref r,.int m,.int n]/\Nt.Ok N/\NetAt H r fr er ps N/\N.lanes%2=0/\∀ H',Same H H'->Q (.bl (zmK N m n)) H'
theorem zgV {N:Nt}(ok:N.Ok) (e:N.lanes%2=0) (m n:Int):1<=N.lanes / 2/\(zax m (N.lanes / 2)++zax n (N.lanes / 2)).length=N.lanes/\(za3 N (zax m (N.lanes / 2)++zax n (N.lanes / 2))).sum=m+n/\(za3 N (zax m (N.lanes / 2)++zax n (N.lanes / 2))).length=N.lanes:=by
 have l1:=ok.l1;have a:1<=N.lanes / 2:=by lia
 have ln:(zax m (N.lanes / 2)++zax n (N.lanes / 2)).length=N.lanes:=by rw[Jn,zas,zas];lia
 refine⟨a,ln,?_,?_⟩
 ·rw[zlf ok ln,List.sum_append,zdF _ _ a,zdF _ _ a]
 ·unfold za3
  rw[Jm,ok.en.length_eq,YG]
theorem zjt (c:Int):c-c / 2=(c+1) / 2:=by lia
section
variable {P:Program}{w:World}{K:PySem.W.Frag}{mg:Str->Option Value}{base:Heap}
theorem scMg:FnScope ["net","m","n","width"] ["net","m","n"] (zaj zfJ):=by trivial
theorem ziL {f B C D:Addr}{fd I dI J:FuncData}(F:Fun K "merges" "merges" zfJ f fd) (a:Use P w K mg base "stair_of" ["total","many"] 1 zc2 B I) (d:Use P w K mg base "is_stair" ["counts"] 2 zc5 C dI) (e:Use P w K mg base "ends_of" ["net","counts"] 2 zdG D J):FnOk P w K mg base CX0 3 f fd ["net","m","n"] zbV:=by
 refine F.ok scMg (λvs H Q E h=>?_) (λcdv A outer s H vs Q E g h=>?_)
 ·obtain⟨r,fr,er,ps,N,m,n,rfl,_⟩:=h
  rfl
 obtain⟨r,fr,er,ps,N,m,n,rfl,ok,na,ev,k⟩:=h;have b:Room 1 _:=g.mono (by decide);refine⟨_,(@zaf _ _ _ _ _ (@zaq _ _ 3 _ _ _ _ scMg.nd rfl (.inl rfl) (@zao _ _ _ _ _ _ _ _ zbi (@zaP _ _ _ _ _ _ _ zbc (@qv _ 0 _ _ (by trivial)) zah (λ_ _=>rfl)) zah) (by rfl) (by trivial)) (@zai _ _ _ (@zap _ _ _ _ (@zal _ _ _ _ _ _ _ _ _ _ _ _ _ _ _ _ d.ok g (by rfl) d.m d.kp d.b .nil zaw (@zaa _ _ _ _ _ (@zal _ _ _ _ _ _ _ _ _ _ _ _ _ _ _ _ e.ok g (by rfl) e.m e.kp e.b .nil zaw (@zaa _ _ _ _ _ (@qv _ 0 _ _ (by trivial)) (@zaa _ _ _ _ _ (@zao _ _ _ _ _ _ _ _ zb4 (@zal _ _ _ _ _ _ _ _ _ _ _ _ _ _ _ _ a.ok b (by rfl) a.m a.kp a.b .nil zaw (@zaa _ _ _ _ _ (@qv _ 1 _ _ (by trivial)) (@zaa _ _ _ _ _ (@qv _ 3 _ _ (by trivial)) zad (by rfl)) (by rfl)) (by decide) (by rfl) (by rfl)) (@zal _ _ _ _ _ _ _ _ _ _ _ _ _ _ _ _ a.ok b (by rfl) a.m a.kp a.b .nil zaw (@zaa _ _ _ _ _ (@qv _ 2 _ _ (by trivial)) (@zaa _ _ _ _ _ (@qv _ 3 _ _ (by trivial)) zad (by rfl)) (by rfl)) (by decide) (by rfl) (by rfl))) zad (by rfl)) (by rfl)) (by decide) (by rfl) (by rfl)) zad (by rfl)) (by decide) (by rfl) (by rfl))))),?_⟩;have l16:=ok.l16;obtain⟨p,ln,q,i⟩:=zgV ok ev m n;refine⟨_,rfl,r,_,0,_,rfl,rfl,SqT.of na.net,rfl,_,_,rfl,rfl,⟨by decide,by decide⟩,?_⟩;have G:((N.lanes:Nat):Int) / 2=((N.lanes / 2:Nat):Int):=by lia
 simp only[G];refine⟨_,rfl,_,rfl,_,rfl,m,N.lanes / 2,rfl,p,by lia,λz H1 s1 o=>?_⟩;refine⟨_,rfl,_,rfl,n,N.lanes / 2,rfl,p,by lia,λp2 R s2 l=>?_⟩;refine⟨z,p2,_,_,rfl,rfl,s2 _ _ o,l,by rw[Jm,Jm,zas,zas,JM];lia,λy O v c=>?_⟩;rw[<- JN]at c;have u3:=(s1.trans s2).trans v;refine⟨r,fr,er,ps,N,y,_,rfl,ok,na.tups (Tups.of u3),c,ln,λx M u j=>?_⟩;refine⟨x,_,rfl,j,by rw[i];lia,by rw[i];lia,λL t=>?_⟩;rw[q,i];exact k L ((u3.trans u).trans t)
theorem scLs:FnScope ["_law_total","_law_many"] ["_law_total","_law_many"] (zaj zfM):=by trivial
theorem ziN {f:Addr}{fd:FuncData}(F:Fun K "_law_stair" "_law_stair" zfM f fd) (G:Mgs mg):FnOk P w K mg base CX0 1 f fd ["_law_total","_law_many"] zc2:=by
 refine F.ok scLs (λvs H Q E h=>?_) (λcdv A outer s H vs Q E r h=>?_)
 ·obtain⟨t,m,rfl,_⟩:=h
  rfl
 obtain⟨t,m,rfl,q,d,k⟩:=h;refine⟨_,(@zai _ _ _ (@zap _ _ _ _ (@zat _ _ _ _ _ _ _ _ _ zar (by rfl) G.tuple (by rfl) (@zaa _ _ _ _ _ (@zeW _ _ _ _ none _ _ _ _ _ _ ["_law_k","_law_many","_law_total"] [none,some 1,some 0] rfl (@zaU _ _ _ _ _ _ rfl G.range (@zaa _ _ _ _ _ (@qv _ 1 _ _ (by trivial)) zad (by rfl)) (by rfl)) (CapOk.of (by kernel_rfl)) (λ_ _ _ _ _=>(@zak _ _ 0 _ (show (["_law_k","_law_many","_law_total"]:List Str).Nodup from by decide +kernel) rfl (.inl rfl) (.inr rfl))) (λ_ _ _ _ _=>zbu) (λ_ _ _ _ _=>(@zao _ _ _ _ _ _ _ _ zbi (@zao _ _ _ _ _ _ _ _ zbO (@zao _ _ _ _ _ _ _ _ zbO (@zao _ _ _ _ _ _ _ _ zaJ (@qv _ 2 _ _ (by trivial)) (@qv _ 1 _ _ (by trivial))) zah) (@qv _ 0 _ _ (by trivial))) (@qv _ 1 _ _ (by trivial)))) (by intro _;rfl)) zad (by rfl)) (by decide) (by decide) (by rfl) (by rfl)))),?_⟩;refine⟨_,rfl,_,rfl,by lia,by lia,λl g=>?_⟩;refine zcj (lo:=0) (n:=((m:Nat):Int).toNat) (λi acc σ a=>(∃ v0,σ=[v0,some (.int (m:Nat)),some (.int t)])/\Same H a/\a l=some (.lst acc)/\acc=((zax t m).take i).map V.int) ⟨⟨_,rfl⟩,zac g _,zab,rfl⟩ (λi acc σ a z=>z.2.2.1) ?_ ?_
 ·rintro i acc σ a hi ⟨⟨v0,rfl⟩,s2,c,e2⟩
  have im:i<m:=by lia
  refine⟨_,rfl,_,rfl,_,_,rfl,rfl,_,_,rfl,rfl,_,rfl,_,_,rfl,rfl,_,rfl,_,_,rfl,rfl,⟨by lia,by lia⟩,c,?_,nx hi ⟨⟨_,rfl⟩,λb o e=>?_,zab,?_⟩⟩
  ·rw[e2,Jm,JE,zas,JM];lia
  ·rw[zag (zae e g)];exact s2 b o e
  ·rw[e2,za6 _ _ _ (by lia),za6 _ _ _ (by lia),List.range_succ,JN,JN]
   show _++[V.int ((t+(m:Nat)-1-(0+(i:Nat))) / (m:Nat))]=_++[V.int ((t-(i:Nat)+(m:Nat)-1) / (m:Nat))];rw[show t+((m:Nat):Int)-1-(0+(i:Nat))=t-((i:Nat):Int)+((m:Nat):Int)-1 by lia]
 rintro acc σ a ⟨⟨v0,rfl⟩,s2,c,e2⟩;rw[Yt,Yf (by rw[zas];exact Jg _)]at e2;rw[e2]at c;exact⟨l,_,rfl,.inl ⟨SqL.of c,λp j=>k p _ (s2.trans (zac j _)) zab⟩⟩
theorem scLe:FnScope ["_law_net_here","_law_counts","_law_here","_law_a","_law_b","_law_both"] ["_law_net_here","_law_counts"] (zaj zir):=by trivial
theorem zkG {f:Addr}{fd:FuncData}(F:Fun K "_law_ends" "_law_ends" zir f fd) (G:Mgs mg):FnOk P w K mg base CX0 1 f fd ["_law_net_here","_law_counts"] zdG:=by
 refine F.ok scLe (λvs H Q E h=>?_) (λcdv A outer s H vs Q E X h=>?_)
 ·obtain⟨r,fr,er,ps,N,c,cs,rfl,_⟩:=h
  rfl
 obtain⟨r,fr,er,ps,N,c,cs,rfl,ok,na,T,cl,k⟩:=h;refine⟨_,(@zaf _ _ _ _ _ (@zaq _ _ 2 _ _ _ _ scLe.nd rfl (.inr rfl) (@zat _ _ _ _ _ _ _ _ _ zbr (by rfl) G.list (by rfl) (@zaa _ _ _ _ _ (@qv _ 1 _ _ (by trivial)) zad (by rfl)) (by decide) (by decide) (by rfl) (by rfl)) (by rfl) (by trivial)) (@zaf _ _ _ _ _ (@zbx _ _ _ _ _ _ _ _ Yx rfl (@zdb _ _ _ _ (@zaP _ _ _ _ _ _ _ zbc (@qv _ 0 _ _ (by trivial)) zah (λ_ _=>rfl))) (@zaV _ _ _ _ _ _ rfl (@zam _ _ _ _ _ (@zak _ _ 3 _ scLe.nd rfl (.inl rfl) (by trivial)) (@zam _ _ _ _ _ (@zak _ _ 4 _ scLe.nd rfl (.inl rfl) (by trivial)) zaF (by rfl)) (by rfl)) (by rfl) (by rfl)) (@zaf _ _ _ _ _ (@zaq _ _ 5 _ _ _ _ scLe.nd rfl (.inl rfl) (@zao _ _ _ _ _ _ _ _ zaJ (@zaP _ _ _ _ _ _ _ zaK (@qv _ 2 _ _ (by trivial)) (@qv _ 3 _ _ (by trivial)) (λ_ _=>rfl)) (@zaP _ _ _ _ _ _ _ zaK (@qv _ 2 _ _ (by trivial)) (@qv _ 4 _ _ (by trivial)) (λ_ _=>rfl))) (by rfl) (by trivial)) (@zai _ _ _ (@zaT _ _ _ _ _ _ (@zaB _ _ _ _ _ (@zaa _ _ _ _ _ (@zao _ _ _ _ _ _ _ _ zbO (@qv _ 5 _ _ (by trivial)) (@zao _ _ _ _ _ _ _ _ zbi (@qv _ 5 _ _ (by trivial)) zah)) (@zaa _ _ _ _ _ (@zao _ _ _ _ _ _ _ _ zbi (@qv _ 5 _ _ (by trivial)) zah) zad (by rfl)) (by rfl))) (@zaV _ _ _ _ _ _ rfl (@zam _ _ _ _ _ (@zch _ _ _ _ _ _ _ (@qv _ 2 _ _ (by trivial)) (@qv _ 3 _ _ (by trivial)) zbd (by intro _;rfl)) (@zam _ _ _ _ _ (@zch _ _ _ _ _ _ _ (@qv _ 2 _ _ (by trivial)) (@qv _ 4 _ _ (by trivial)) zbd (by intro _;rfl)) zaF (by rfl)) (by rfl)) (by rfl) (by rfl)) (by rfl) (by rfl) (by rfl)))) (by intro _;rfl)) (@zai _ _ _ (@zap _ _ _ _ (@zat _ _ _ _ _ _ _ _ _ zar (by rfl) G.tuple (by rfl) (@zaa _ _ _ _ _ (@zeW _ _ _ _ none _ _ _ _ _ _ ["_law_lane","_law_here"] [none,some 2] rfl (@zdb _ _ _ _ (@zaP _ _ _ _ _ _ _ zbc (@qv _ 0 _ _ (by trivial)) zah (λ_ _=>rfl))) (CapOk.of (by kernel_rfl)) (λ_ _ _ _ _=>(@zak _ _ 0 _ (show (["_law_lane","_law_here"]:List Str).Nodup from by decide +kernel) rfl (.inl rfl) (.inr rfl))) (λ_ _ _ _ _=>zbu) (λ_ _ _ _ _=>(@zaP _ _ _ _ _ _ (rIxL K) zaK (@qv _ 1 _ _ (by trivial)) (@qv _ 0 _ _ (by trivial)) (λ_ _=>rfl))) (by intro _;rfl)) zad (by rfl)) (by decide) (by decide) (by rfl) (by rfl)))))),?_⟩;refine⟨_,rfl,c,_,rfl,.inr (SqT.of T),λlo m=>?_⟩;have s1:=zac m (.lst (cs.map V.int));refine⟨_,rfl,r,_,_,_,rfl,rfl,SqT.of (s1 _ _ na.net),rfl,fr,rfl,⟨_,SqT.of (s1 _ _ na.forks)⟩,?_⟩;refine zet (K:=K) (a:=fr) (xs:=ps) (λi σ n=>(∃ L J I,σ=[some (.ref r),some (.ref c),some (.ref lo),L,J,I])/\Same H n/\n lo=some (.lst ((flow (N.forks.take i) cs).1.map V.int))) ⟨⟨_,_,_,rfl⟩,s1,zab⟩ (λi σ n _ q=>SqT.of (q.2.1 _ _ na.forks)) ?_ ?_
 ·rintro i p σ n M ⟨⟨L,J,I,rfl⟩,j,h1⟩
  obtain⟨a,g,rfl,R,ha⟩:=(na.prs.tups (Tups.of j)).get M;have W:=ok.fk g (JP R);have fl:(flow (N.forks.take i) cs).1.length=N.lanes:=by rw[zbG,cl]
  have U:=zbQ R cs;generalize flow (N.forks.take i) cs=st at *;refine⟨a,_,rfl,SqT.of ha,rfl,_,_,rfl,_,_,rfl,rfl,?_⟩;refine⟨_,rfl,_,rfl,lo,_,_,_,rfl,rfl,SqL.of h1,zbT (by lia),_,rfl,_,rfl,lo,_,_,_,rfl,rfl,SqL.of h1,zbT (by lia),_,_,rfl,rfl,?_⟩;refine⟨_,rfl,_,rfl,_,_,rfl,rfl,⟨by decide,by decide⟩,_,_,rfl,rfl,_,rfl,_,_,rfl,rfl,⟨by decide,by decide⟩,(by show 2<=sizeLine;decide),λt S=>?_⟩;have d:=zac S (.tup [.int (st.1.getD g.1 0+st.1.getD g.2 0-(st.1.getD g.1 0+st.1.getD g.2 0) / 2),.int ((st.1.getD g.1 0+st.1.getD g.2 0) / 2)]);refine⟨t,_,rfl,SqT.of (zab),rfl,_,_,rfl,_,rfl,_,rfl,lo,_,_,g.1,rfl,rfl,d _ _ h1,ze9 (by rw[Jm];lia),_,_,rfl,_,rfl,_,rfl,lo,_,_,g.2,rfl,rfl,zab,ze9 (by rw[Z9,Jm];lia),rfl,⟨_,_,_,rfl⟩,λb o e=>?_,?_⟩
  ·rw[zag (zae e m),zag (zae e m)];exact d _ _ (j b o e)
  ·rw[zab,U]
   dsimp only;rw[zjt];unfold zaN;rw[zbE,zbE]
 ·rintro σ n ⟨⟨L,J,I,rfl⟩,j,h1⟩
  have e:N.forks.take ps.length=N.forks:=by rw[na.prs.len];exact Yq
  rw[e]at h1;have fl:(flow N.forks cs).1.length=N.lanes:=by rw[zbG,cl]
  have Y:N.ends.length=N.lanes:=by rw[ok.en.length_eq,YG]
  have l16:=ok.l16;refine⟨_,rfl,r,_,_,_,rfl,rfl,SqT.of (j _ _ na.net),rfl,er,rfl,⟨_,SqT.of (j _ _ na.ends)⟩,λl O=>?_⟩;refine zlB (K:=K) (a:=er) (xs:=nums N.ends) (λi acc σ y=>(∃ v,σ=[v,some (.ref lo)])/\Same n y/\y l=some (.lst acc)/\acc=((N.ends.take i).map λe=>(flow N.forks cs).1.getD e 0).map V.int) ⟨⟨_,rfl⟩,zac O _,zab,rfl⟩ (λi acc σ y z=>⟨z.2.2.1,SqT.of (z.2.1 _ _ (j _ _ na.ends))⟩) ?_ ?_
  ·rintro i x acc σ y C ⟨⟨v,rfl⟩,d,D,u⟩
   have B:i<N.ends.length:=by have:=(J9.mp C).1;rwa [zav]at this
   have ex:x=.int N.ends[i]:=by
    unfold nums at C;rw[JL,J6 B]at C;exact(Js C).symm
   subst ex;have lane:N.ends[i]<N.lanes:=YN.mp (ok.en.mem_iff.mp (Yr B));refine⟨_,rfl,_,rfl,lo,_,_,_,rfl,rfl,SqL.of (d _ _ h1),zbT (by lia),D,?_,nx (by rw[zav];exact B) ⟨⟨_,rfl⟩,λb o e=>?_,zab,?_⟩⟩
   ·rw[u,Jm,Jm,JE,JM];lia
   ·rw[zag (zae e O)];exact d b o e
   ·rw[u,Y7 B,JN,JN];rfl
  rintro acc σ y ⟨⟨v,rfl⟩,d,D,u⟩;rw[zav,Yq]at u;rw[u]at D;exact⟨l,_,rfl,.inl ⟨SqL.of D,λp M=>k p _ ((j.trans d).trans (zac M _)) zab⟩⟩
theorem scLm:FnScope ["_law_net_here","_law_m","_law_n","_law_half"] ["_law_net_here","_law_m","_law_n"] (zaj zee):=by trivial
theorem zhp {f z B:Addr}{fd D G:FuncData}(F:Fun K "_law_merges" "_law_merges" zee f fd) (a:Use P w K mg base "_law_stair" ["_law_total","_law_many"] 1 zc2 z D) (d:Use P w K mg base "_law_ends" ["_law_net_here","_law_counts"] 1 zdG B G):FnOk P w K mg base CX0 2 f fd ["_law_net_here","_law_m","_law_n"] zbV:=by
 refine F.ok scLm (λvs H Q E h=>?_) (λcdv A outer s H vs Q E b h=>?_)
 ·obtain⟨r,fr,er,ps,N,m,n,rfl,_⟩:=h
  rfl
 obtain⟨r,fr,er,ps,N,m,n,rfl,ok,na,ev,k⟩:=h;refine⟨_,(@zaf _ _ _ _ _ (@zaq _ _ 3 _ _ _ _ scLm.nd rfl (.inl rfl) (@zao _ _ _ _ _ _ _ _ zbi (@zaP _ _ _ _ _ _ _ zbc (@qv _ 0 _ _ (by trivial)) zah (λ_ _=>rfl)) zah) (by rfl) (by trivial)) (@zai _ _ _ (@zap _ _ _ _ (@zel _ _ _ _ _ _ _ _ (zlz b.units0) (@zal _ _ _ _ _ _ _ _ _ _ _ _ _ _ _ _ d.ok b (by rfl) d.m d.kp d.b .nil zaw (@zaa _ _ _ _ _ (@qv _ 0 _ _ (by trivial)) (@zaa _ _ _ _ _ (@zao _ _ _ _ _ _ _ _ zb4 (@zal _ _ _ _ _ _ _ _ _ _ _ _ _ _ _ _ a.ok b (by rfl) a.m a.kp a.b .nil zaw (@zaa _ _ _ _ _ (@qv _ 1 _ _ (by trivial)) (@zaa _ _ _ _ _ (@qv _ 3 _ _ (by trivial)) zad (by rfl)) (by rfl)) (by decide) (by rfl) (by rfl)) (@zal _ _ _ _ _ _ _ _ _ _ _ _ _ _ _ _ a.ok b (by rfl) a.m a.kp a.b .nil zaw (@zaa _ _ _ _ _ (@qv _ 2 _ _ (by trivial)) (@zaa _ _ _ _ _ (@qv _ 3 _ _ (by trivial)) zad (by rfl)) (by rfl)) (by decide) (by rfl) (by rfl))) zad (by rfl)) (by rfl)) (by decide) (by rfl) (by rfl)) (@zal _ _ _ _ _ _ _ _ _ _ _ _ _ _ _ _ a.ok b (by rfl) a.m a.kp a.b .nil zaw (@zaa _ _ _ _ _ (@zao _ _ _ _ _ _ _ _ zaJ (@qv _ 1 _ _ (by trivial)) (@qv _ 2 _ _ (by trivial))) (@zaa _ _ _ _ _ (@zaP _ _ _ _ _ _ _ zbc (@qv _ 0 _ _ (by trivial)) zah (λ_ _=>rfl)) zad (by rfl)) (by rfl)) (by decide) (by rfl) (by rfl)) (zaR _))))),?_⟩;have l16:=ok.l16;have l1:=ok.l1;obtain⟨l,ln,J,L⟩:=zgV ok ev m n;refine⟨_,rfl,r,_,0,_,rfl,rfl,SqT.of na.net,rfl,_,_,rfl,rfl,⟨by decide,by decide⟩,?_⟩;have C:((N.lanes:Nat):Int) / 2=((N.lanes / 2:Nat):Int):=by lia
 simp only[C];refine⟨_,rfl,_,rfl,_,rfl,m,N.lanes / 2,rfl,l,by lia,λy H1 s1 j=>?_⟩;refine⟨_,rfl,_,rfl,n,N.lanes / 2,rfl,l,by lia,λp2 R s2 i=>?_⟩;refine⟨y,p2,_,_,rfl,rfl,s2 _ _ j,i,by rw[Jm,Jm,zas,zas,JM];lia,λx O t c=>?_⟩;rw[<- JN]at c;have u3:=(s1.trans s2).trans t;refine⟨r,fr,er,ps,N,x,_,rfl,ok,na.tups (Tups.of u3),c,ln,λv M q g=>?_⟩;have o:=u3.trans q;refine⟨_,rfl,_,rfl,_,_,rfl,rfl,_,rfl,r,_,0,_,rfl,rfl,SqT.of (o _ _ na.net),rfl,m+n,N.lanes,rfl,l1,by lia,λu I p e=>?_⟩;refine⟨v,u,_,_,rfl,rfl,SqT.of (p _ _ g),SqT.of e,zcr _,zcr _,?_⟩;rw[zlI];exact k I (o.trans p)
end
abbrev sLaw:Stmt:=top 48
abbrev zmb:Stmt:=top 46
abbrev sAhd:Stmt:=top 47
def zkf (K:PySem.W.Frag) (Pt:Addr):Sp:=λvs H Q _=>∃ (a:Addr) (ns:List Int),vs=[.ref a]/\SqL K H a (ns.map V.int)/\ns.length<=63/\H Pt=some (.tbl #[])/\∀ H',Q (.bl true) H'
def Scr (K:PySem.W.Frag) (a:Addr) (xs:List V) (H:Hp):Prop:=H a=some (.lst xs)\/(∃ o,H a=some (.frz o (.lst xs)))\/∀ H',SqL K H' a xs
theorem Scr.of {K:PySem.W.Frag}{a:Addr}{xs:List V}{H:Hp}(h:SqL K H a xs):Scr K a xs H:=by
 rcases h with (h|h)|h
 ·exact .inl h
 ·exact .inr (.inl h)
 ·exact .inr (.inr λH'=>.inr h)
theorem Scr.sq {K:PySem.W.Frag}{a:Addr}{xs:List V}{H:Hp}(h:Scr K a xs H):SqL K H a xs:=by
 rcases h with h|h|h
 ·exact .inl (.inl h)
 ·exact .inl (.inr h)
 ·exact h H
theorem Scr.keep {K:PySem.W.Frag}{a:Addr}{xs:List V}{H H':Hp}(h:Scr K a xs H) (k:∀ o,H a=some o->(o=.lst xs\/∃ u,o=.frz u (.lst xs))->(∀ H',SqL K H' a xs)\/H' a=some o):Scr K a xs H':=by
 rcases h with h|⟨o,h⟩|h
 ·rcases k _ h (.inl rfl) with z|z
  ·exact .inr (.inr z)
  ·exact .inl z
 ·rcases k _ h (.inr ⟨o,rfl⟩) with z|z
  ·exact .inr (.inr z)
  ·exact .inr (.inl ⟨o,z⟩)
 ·exact .inr (.inr h)
structure LE (K:PySem.W.Frag) (a l Pt:Addr) (xs:List V) (H:Hp):Prop where
 S:PkAt H l
 tab:TabQ qM Pt H
 scr:Scr K a xs H
 al:a≠l\/∀ H',SqL K H' a xs
section
variable {K:PySem.W.Frag}{a l Pt:Addr}{xs:List V}{H H':Hp}
theorem LE.same (h:LE K a l Pt xs H) (s:Same H H'):LE K a l Pt xs H':=⟨h.S.keep s,h.tab.same s,h.scr.keep λo e _=>.inr (s _ _ e),h.al⟩
theorem LE.pick (h:LE K a l Pt xs H) (d:PkAt H' l) (b:But l H H'):LE K a l Pt xs H':=by
 obtain⟨g,f,c,_⟩:=h.S.ex;refine⟨d,h.tab.but b c,h.scr.keep λo e _=>?_,h.al⟩;rcases h.al with z|z
 ·exact .inr (b _ _ e z)
 ·exact .inl z
theorem LE.ver (h:LE K a l Pt xs H) (t:TabQ qM Pt H') (b:But Pt H H'):LE K a l Pt xs H':=by
 obtain⟨ls,f,_⟩:=h.tab;obtain⟨x,y,d,r⟩:=h.S.ex;refine⟨⟨x,y,b _ _ d (zcR d f λq=>by cases q),r⟩,t,h.scr.keep λo e c=>.inr (b _ _ e λq=>?_),h.al⟩;rw[q,f]at e;cases e;rcases c with c|⟨u,c⟩<;>cases c
theorem znP {lc:Addr}(h:LE K a l Pt xs H) (n:H lc=none):a≠lc\/∀ H',SqL K H' a xs:=by
 rcases h.scr with z|⟨o,z⟩|z
 ·exact .inl (zae z n)
 ·exact .inl (zae z n)
 ·exact .inr z
theorem LE.list {lc:Addr}{ys zs:List V}(h:LE K a l Pt xs H) (e:H lc=some (.lst ys)) (n:lc≠l) (ac:a≠lc\/∀ H',SqL K H' a xs):LE K a l Pt xs (L2.upd H lc (.lst zs)):=by
 refine⟨h.S.upd n.symm,h.tab.keep λb o q z=>?_,h.scr.keep λo q _=>?_,h.al⟩
 ·rw[zag];· exact q
  ·intro y
   rw[y,e]at q;cases q;rcases z with ⟨_,z⟩|⟨_,_,z⟩<;>cases z
 ·rcases ac with z|z
  ·exact .inr (by rw[zag z];exact q)
  ·exact .inl z
theorem zka {q:Str}(t:TabQ q Pt H) (b:But Pt H H'):Tups H H':=λc ys e=>by
 obtain⟨ls,a,_⟩:=t;exact b _ _ e (zcR e a λq=>by cases q)
end
theorem zkX {N:Nt}{m n:Nat}{d:Bool}(h:Merg N m n↔d=true):zmK N ((m:Nat):Int) ((n:Nat):Int)=d:=by
 unfold zmK;have e:Merg N m n↔za3 N (zax ((m:Nat):Int) (N.lanes / 2)++zax ((n:Nat):Int) (N.lanes / 2))=zax (((m:Nat):Int)+((n:Nat):Int)) N.lanes:=Iff.rfl
 cases d with
 | true=>exact JG (e.mp (h.mpr rfl))
 | false=>exact Jv λz=>absurd (h.mp (e.mpr z)) (by decide)
def zij:Sp:=λvs H Q _=>∃ r fr er ps N b xs fs,∃ a:Bool,vs=[.ref r,.ref b,.bl a]/\Nt.Ok N/\N.lanes%2=0/\NetAt H r fr er ps N/\H b=some (.lst xs)/\Prs H xs fs/\(∀ f∈fs,Merg N f.1 f.2↔a=true)/\∀ H',Same H H'->Q (.bl true) H'
def Ahead (m n:Nat) (f:Nat × Nat):Prop:=f.1+f.2<m+n\/f.1+f.2=m+n/\f.1<m
def zlZ:Sp:=λvs H Q _=>∃ m n:Nat,vs=[.int (m:Nat),.int (n:Nat)]/\m+n<=5000/\∀ l xs fs H',Same H H'->H' l=some (.lst xs)->Prs H' xs fs->(∀ f∈fs,Ahead m n f)->Q (.ref l) H'
section
variable {P:Program}{w:World}{K:PySem.W.Frag}{mg:Str->Option Value}{base:Heap}
theorem scAl:FnScope ["_law_net_here","_law_pairs","_law_due","_law_m","_law_n","_law_told"] ["_law_net_here","_law_pairs","_law_due"] (zaj zmb):=by trivial
theorem zmC {f B C:Addr}{fd I dL:FuncData}(F:Fun K "_law_all" "_law_all" zmb f fd) (G:Mgs mg) (j:Use P w K mg base "merges" ["net","m","n"] 3 zbV B I) (l:Use P w K mg base "_law_merges" ["_law_net_here","_law_m","_law_n"] 2 zbV C dL):FnOk P w K mg base CX0 4 f fd ["_law_net_here","_law_pairs","_law_due"] zij:=by
 refine F.ok scAl (λvs H Q E h=>?_) (λcdv A outer s H vs Q E q h=>?_)
 ·obtain⟨r,fr,er,ps,N,d,xs,fs,c,rfl,_⟩:=h
  rfl
 obtain⟨r,fr,er,ps,N,d,xs,fs,c,rfl,ok,ev,na,t,pr,is,k⟩:=h;have m:Room 2 _:=q.mono (by decide);refine⟨_,(@zaf _ _ _ _ _ (@zbx _ _ _ _ _ _ _ _ Yx rfl (@zek _ _ _ _ (@qv _ 1 _ _ (by trivial))) (@zaV _ _ _ _ _ _ rfl (@zam _ _ _ _ _ (@zak _ _ 3 _ scAl.nd rfl (.inl rfl) (by trivial)) (@zam _ _ _ _ _ (@zak _ _ 4 _ scAl.nd rfl (.inl rfl) (by trivial)) zaF (by rfl)) (by rfl)) (by rfl) (by rfl)) (@zaf _ _ _ _ _ (@zaq _ _ 5 _ _ _ _ scAl.nd rfl (.inl rfl) (@zal _ _ _ _ _ _ _ _ _ _ _ _ _ _ _ _ j.ok q (by rfl) j.m j.kp j.b .nil zaw (@zaa _ _ _ _ _ (@qv _ 0 _ _ (by trivial)) (@zaa _ _ _ _ _ (@qv _ 3 _ _ (by trivial)) (@zaa _ _ _ _ _ (@qv _ 4 _ _ (by trivial)) zad (by rfl)) (by rfl)) (by rfl)) (by decide) (by rfl) (by rfl)) (by rfl) (by trivial)) (@zai _ _ _ (@zbw _ _ _ _ _ _ _ _ (@zme _ _ _ _ _ _ _ (@zgB _ _ _ _ (@zeS _ _ _ (@zau _ _ _ _ _ _ _ _ _ zlk (by rfl) G.isi (by rfl) (@zaa _ _ _ _ _ (@qv _ 5 _ _ (by trivial)) (@zaa _ _ _ _ _ (@zmp _ _ (.ty "bool") (.type "bool") _ (by rfl) G.bool (by rfl) rfl (by decide) (by decide)) zad (by rfl)) (by rfl)) (by decide) (by decide) (by rfl) (by rfl)) (by intro _;rfl))) (@zme _ _ _ _ _ _ _ (@zaE _ _ _ _ _ _ _ _ zmr (@qv _ 5 _ _ (by trivial)) (@qv _ 2 _ _ (by trivial)) (zaR _)) (@zlu _ _ _ _ (@zaE _ _ _ _ _ _ _ _ zmr (@zal _ _ _ _ _ _ _ _ _ _ _ _ _ _ _ _ l.ok m (by rfl) l.m l.kp l.b .nil zaw (@zaa _ _ _ _ _ (@qv _ 0 _ _ (by trivial)) (@zaa _ _ _ _ _ (@qv _ 3 _ _ (by trivial)) (@zaa _ _ _ _ _ (@qv _ 4 _ _ (by trivial)) zad (by rfl)) (by rfl)) (by rfl)) (by decide) (by rfl) (by rfl)) (@qv _ 2 _ _ (by trivial)) (zaR _))))).pt (@zai _ _ _ (@zap _ _ _ _ zem)) zaI))) (by intro _;rfl)) (@zai _ _ _ (@zap _ _ _ _ zem))),?_⟩;refine⟨_,rfl,d,rfl,⟨_,SqL.of t⟩,?_⟩;refine zlc (K:=K) (a:=d) (xs:=xs) (λi σ b=>(∃ p o n,σ=[some (.ref r),some (.ref d),some (.bl c),p,o,n])/\Same H b) ⟨⟨_,_,_,rfl⟩,λ_ _ e=>e⟩ (λi σ b _ z=>SqL.of (z.2 _ _ t)) ?_ ?_
 ·rintro i x σ b y ⟨⟨p,o,n,rfl⟩,s2⟩
  obtain⟨a,g,rfl,D,ha⟩:=(pr.tups (Tups.of s2)).get y;have mb:=zkX (is g (JP D));refine⟨a,_,rfl,SqT.of ha,rfl,_,_,rfl,_,_,rfl,rfl,?_⟩;refine⟨_,rfl,_,rfl,_,rfl,r,fr,er,ps,N,_,_,rfl,ok,na.tups (Tups.of s2),ev,λL v=>?_⟩;rw[mb];have u3:=s2.trans v;refine⟨_,rfl,_,"bool",_,_,rfl,.bl _,rfl,_,rfl,iteF ?_⟩;refine⟨_,rfl,_,rfl,rfl,_,rfl,?_⟩;rw[JG rfl];refine iteF ⟨_,rfl,_,rfl,_,rfl,r,fr,er,ps,N,_,_,rfl,ok,na.tups (Tups.of u3),ev,λJ u=>?_⟩;rw[mb];refine⟨_,rfl,rfl,_,rfl,?_⟩;rw[JG rfl];exact iteF ⟨⟨_,_,_,rfl⟩,u3.trans u⟩
 ·rintro σ b ⟨_,s2⟩
  exact k b s2
theorem scAh:FnScope ["_law_m","_law_n","_law_found","_law_total"] ["_law_m","_law_n"] (zaj sAhd):=by trivial
theorem znI {f:Addr}{fd:FuncData}(F:Fun K "_law_ahead" "_law_ahead" sAhd f fd) (G:Mgs mg):FnOk P w K mg base CX0 1 f fd ["_law_m","_law_n"] zlZ:=by
 refine F.ok scAh (λvs H Q E h=>?_) (λcdv A outer s H vs Q E hr h=>?_)
 ·obtain⟨m,n,rfl,_⟩:=h
  rfl
 obtain⟨m,n,rfl,Z,k⟩:=h;refine⟨_,(@zaf _ _ _ _ _ (@zaq _ _ 2 _ _ _ _ scAh.nd rfl (.inl rfl) (@zba _ _ _ _ zad) (by rfl) (by trivial)) (@zaf _ _ _ _ _ (@zbx _ _ _ _ _ _ _ _ Yx rfl (@ziB _ _ _ _ _ _ _ rfl G.range (@zaa _ _ _ _ _ (@zau _ _ _ _ _ _ _ _ _ (zcu rfl) (by rfl) G.max (by rfl) (@zaa _ _ _ _ _ zah (@zaa _ _ _ _ _ (@zao _ _ _ _ _ _ _ _ zbO (@zao _ _ _ _ _ _ _ _ zaJ (@qv _ 0 _ _ (by trivial)) (@qv _ 1 _ _ (by trivial))) zah) zad (by rfl)) (by rfl)) (by decide) (by decide) (by rfl) (by rfl)) (@zaa _ _ _ _ _ (@zao _ _ _ _ _ _ _ _ zaJ (@qv _ 0 _ _ (by trivial)) (@qv _ 1 _ _ (by trivial))) zad (by rfl)) (by rfl)) (by rfl) (by rfl)) (@zak _ _ 3 _ scAh.nd rfl (.inr rfl) (by trivial)) (@zai _ _ _ (@zbg _ _ _ _ (@zdc _ _ _ _ _ _ _ _ _ _ _ _ Yp PySem.F.slot_list_extend PySem.F.type_list_extend ze0 (@qv _ 2 _ _ (by trivial)) (@zaa _ _ _ _ _ (@zeW _ _ _ _ none _ _ _ _ _ _ ["_law_one","_law_total"] [none,some 3] rfl (@zaU _ _ _ _ _ _ rfl G.range (@zaa _ _ _ _ _ (@zao _ _ _ _ _ _ _ _ zaJ (@qv _ 3 _ _ (by trivial)) zah) zad (by rfl)) (by rfl)) (CapOk.of (by kernel_rfl)) (λ_ _ _ _ _=>(@zak _ _ 0 _ (show (["_law_one","_law_total"]:List Str).Nodup from by decide +kernel) rfl (.inl rfl) (.inr rfl))) (λ_ _ _ _ _=>zbu) (λ_ _ _ _ _=>(@zaB _ _ _ _ _ (@zaa _ _ _ _ _ (@qv _ 0 _ _ (by trivial)) (@zaa _ _ _ _ _ (@zao _ _ _ _ _ _ _ _ zbO (@qv _ 1 _ _ (by trivial)) (@qv _ 0 _ _ (by trivial))) zad (by rfl)) (by rfl)))) (by intro _;rfl)) zad (by rfl)) (by rfl) (by rfl) (by rfl) (by rfl) (by rfl)) (by rfl))) (by intro _;rfl)) (@zai _ _ _ (@zap _ _ _ _ (@zao _ _ _ _ _ _ _ _ zgF (@qv _ 2 _ _ (by trivial)) (@zeW _ _ _ _ none _ _ _ _ _ _ ["_law_one","_law_m","_law_n"] [none,some 0,some 1] rfl (@zaU _ _ _ _ _ _ rfl G.range (@zaa _ _ _ _ _ (@qv _ 0 _ _ (by trivial)) zad (by rfl)) (by rfl)) (CapOk.of (by kernel_rfl)) (λ_ _ _ _ _=>(@zak _ _ 0 _ (show (["_law_one","_law_m","_law_n"]:List Str).Nodup from by decide +kernel) rfl (.inl rfl) (.inr rfl))) (λ_ _ _ _ _=>zbu) (λ_ _ _ _ _=>(@zaB _ _ _ _ _ (@zaa _ _ _ _ _ (@qv _ 0 _ _ (by trivial)) (@zaa _ _ _ _ _ (@zao _ _ _ _ _ _ _ _ zbO (@zao _ _ _ _ _ _ _ _ zaJ (@qv _ 1 _ _ (by trivial)) (@qv _ 2 _ _ (by trivial))) (@qv _ 0 _ _ (by trivial))) zad (by rfl)) (by rfl)))) (by intro _;rfl))))))),?_⟩;refine⟨by show 0<=sizeLine;decide,λlf C=>?_⟩;have U:=zac C (.lst []);have em:((m:Nat):Int)+((n:Nat):Int)=((m+n:Nat):Int):=rfl;refine⟨_,rfl,_,rfl,_,_,rfl,rfl,_,_,rfl,rfl,_,_,rfl,_,rfl,_,rfl,_,_,rfl,rfl,_,_,rfl,?_,?_⟩
 ·split<;>lia
 generalize O:(if ((m:Nat):Int)+(n:Nat)-14 > 0 then ((m:Nat):Int)+(n:Nat)-14 else 0)=lo;have l0:0<=lo/\(lo<((m:Nat):Int)+(n:Nat)->((m:Nat):Int)+(n:Nat)-lo<=14):=by rw[<- O];split<;>lia
 refine zbC (lo:=lo) (n:=(((m:Nat):Int)+(n:Nat)-lo).toNat) (λj σ y=>(∃ N,σ=[some (.int (m:Nat)),some (.int (n:Nat)),some (.ref lf),N])/\Same H y/\∃ xs fs,y lf=some (.lst xs)/\Prs y xs fs/\xs.length<=j*5001/\∀ f∈fs,Ahead m n f) ⟨⟨_,rfl⟩,U,[],[],atN C _,trivial,JS _,λf d=>absurd d Je⟩ ?_ ?_
 ·rintro j σ y hj ⟨⟨N,rfl⟩,s2,xs,fs,J,pr,R,al⟩
  obtain⟨T,eT,Tl⟩:∃ T:Nat,lo+((j:Nat):Int)=((T:Nat):Int)/\T<m+n:=⟨(lo+(j:Int)).toNat,by lia,by lia⟩;have X:j<14:=by lia
  refine⟨_,rfl,.inl ⟨rfl,_,SqL.of J⟩,_,rfl,_,_,rfl,rfl,_,rfl,by lia,by lia,λl2 a=>?_⟩;refine zcj (lo:=0) (n:=(lo+((j:Nat):Int)+1).toNat) (λo acc σ i=>(∃ v0,σ=[v0,some (.int (lo+(j:Nat)))])/\Same y i/\i l2=some (.lst acc)/\acc.length=o/\∃ g,Prs i acc g/\∀ f∈g,Ahead m n f) ⟨⟨_,rfl⟩,zac a _,atN a _,rfl,[],trivial,λf d=>absurd d Je⟩ (λo acc σ i z=>z.2.2.1) ?_ ?_
  ·rintro o acc σ i W ⟨⟨v0,rfl⟩,p,v,c,g,pg,x⟩
   have S:o<=T:=by lia
   refine⟨_,rfl,_,rfl,_,rfl,_,_,rfl,rfl,by show 2<=sizeLine;decide,λt I=>?_⟩;have e2:(lo+((j:Nat):Int))-(0+((o:Nat):Int))=((T-o:Nat):Int):=by lia
   have L:(0:Int)+((o:Nat):Int)=((o:Nat):Int):=Wr _;have l:=zac I (.tup [.int (0+((o:Nat):Int)),.int ((lo+((j:Nat):Int))-(0+((o:Nat):Int)))]);have r:=l _ _ v;have B:=atN I (.tup [.int (0+((o:Nat):Int)),.int ((lo+((j:Nat):Int))-(0+((o:Nat):Int)))]);refine⟨r,by rw[c,JM];lia,nx (by lia) ⟨⟨_,rfl⟩,λb u e=>?_,zab,by rw[Jn,c];rfl,g++[(o,T-o)],?_,λf d=>?_⟩⟩
   ·rw[zag (zae e a)];exact l _ _ (p b u e)
   ·refine Prs.add (f:=(o,T-o)) (Tups.lst r _ _ ?_) ((pg.tups (Tups.of l)).tups (Tups.lst r))
    have q:=B;rw[e2,L]at q;rw[e2,L];exact q
   ·rcases Jx.mp d with z|z
    ·exact x f z
    ·rw[Jd.mp z];exact .inl (by show o+(T-o)<m+n;lia)
  rintro acc σ i ⟨⟨v0,rfl⟩,p,v,c,g,pg,x⟩;have D:=p _ _ J;have nl:lf≠l2:=zae J a;refine⟨lf,l2,xs,acc,rfl,rfl,D,v,by rw[JM];lia,⟨_,rfl⟩,λb u e=>?_,xs++acc,fs++g,zab,Prs.app ((pr.tups (Tups.of p)).tups (Tups.lst D)) (pg.tups (Tups.lst D)),?_,λf d=>?_⟩
  ·rw[zag (zae e C)];exact p _ _ (s2 b u e)
  ·rw[Jn];lia
  ·rcases Jx.mp d with z|z
   ·exact al f z
   ·exact x f z
 rintro σ y ⟨⟨N,rfl⟩,s2,xs,fs,J,pr,R,al⟩;refine⟨_,rfl,_,rfl,_,rfl,by lia,by lia,λl2 a=>?_⟩;refine zcj (lo:=0) (n:=((m:Nat):Int).toNat) (λo acc σ i=>(∃ v0,σ=[v0,some (.int (m:Nat)),some (.int (n:Nat))])/\Same y i/\i l2=some (.lst acc)/\acc.length=o/\∃ g,Prs i acc g/\∀ f∈g,Ahead m n f) ⟨⟨_,rfl⟩,zac a _,atN a _,rfl,[],trivial,λf d=>absurd d Je⟩ (λo acc σ i z=>z.2.2.1) ?_ ?_
 ·rintro o acc σ i W ⟨⟨v0,rfl⟩,p,v,c,g,pg,x⟩
  have S:o<m:=by lia
  refine⟨_,rfl,_,rfl,_,rfl,_,_,rfl,rfl,_,rfl,_,_,rfl,rfl,by show 2<=sizeLine;decide,λt I=>?_⟩;have e2:(((m:Nat):Int)+((n:Nat):Int))-(0+((o:Nat):Int))=((m+n-o:Nat):Int):=by lia
  have L:(0:Int)+((o:Nat):Int)=((o:Nat):Int):=Wr _;have l:=zac I (.tup [.int (0+((o:Nat):Int)),.int ((((m:Nat):Int)+((n:Nat):Int))-(0+((o:Nat):Int)))]);have r:=l _ _ v;have B:=atN I (.tup [.int (0+((o:Nat):Int)),.int ((((m:Nat):Int)+((n:Nat):Int))-(0+((o:Nat):Int)))]);refine⟨r,by rw[c,JM];lia,nx (by lia) ⟨⟨_,rfl⟩,λb u e=>?_,zab,by rw[Jn,c];rfl,g++[(o,m+n-o)],?_,λf d=>?_⟩⟩
  ·rw[zag (zae e a)];exact l _ _ (p b u e)
  ·refine Prs.add (f:=(o,m+n-o)) (Tups.lst r _ _ ?_) ((pg.tups (Tups.of l)).tups (Tups.lst r))
   have q:=B;rw[e2,L]at q;rw[e2,L];exact q
  ·rcases Jx.mp d with z|z
   ·exact x f z
   ·rw[Jd.mp z];exact .inr ⟨by show o+(m+n-o)=m+n;lia,S⟩
 rintro acc σ i ⟨⟨v0,rfl⟩,p,v,c,g,pg,x⟩
 have Y:xs.length<=14*5001:=by
  have:(((m:Nat):Int)+(n:Nat)-lo).toNat<=14:=by lia
  exact JX R (Nat.mul_le_mul_right _ this)
 refine⟨lf,l2,xs,acc,rfl,rfl,p _ _ J,v,by rw[JM];lia,λV M=>?_⟩;have l:=zac M (.lst (xs++acc));refine k V (xs++acc) (fs++g) _ ((s2.trans p).trans l) (atN M _) (Prs.app (pr.tups (Tups.of (p.trans l))) (pg.tups (Tups.of l))) λf d=>?_;rcases Jx.mp d with z|z
 ·exact al f z
 ·exact x f z
theorem scW:FnScope ["_law_script","_law_k","_law_left_here","_law_net_here","_law_word","_law_thing","_law_pairs","_law_m","_law_turn","_law_far"] ["_law_script"] (zaj sLaw):=by trivial
theorem znG {f fL fK fN fV fA fH Pt:Addr}{fd dL dK dN dV dA dH:FuncData}(F:Fun K "law" "law" sLaw f fd) (G:Mgs mg) (UL:Use P w K mg base "_law_left" ["_law_script","_law_k"] 2 (zig K) fL dL) (d:Use P w K mg base "_law_pick" ["_law_left_here","_law_many"] 1 zc3 fK dK) (UN:Use P w K mg base "_law_merging_net" ["_law_left_here"] 8 zif fN dN)
  (UV:Use P w K mg base "merge_verdict" ["net","most"] 8 (zfD qM Pt) fV dV) (D:Use P w K mg base "_law_all" ["_law_net_here","_law_pairs","_law_due"] 4 zij fA dA) (UH:Use P w K mg base "_law_ahead" ["_law_m","_law_n"] 1 zlZ fH dH):FnOk P w K mg base CX0 9 f fd ["_law_script"] (zkf K Pt):=by
 refine F.ok scW (λvs H Q E h=>?_) (λcdv A outer s H vs Q E hr h=>?_)
 ·obtain⟨a,ns,rfl,_⟩:=h
  rfl
 obtain⟨a,ns,rfl,hS,aQ,aP,k⟩:=h;have tab:TabQ qM Pt H:=⟨[],aP,λp hp=>absurd hp Je⟩;have L:Room 1 _:=hr.mono (by decide);have aO:Room 2 _:=hr.mono (by decide);have aj:Room 4 _:=hr.mono (by decide);refine⟨_,(@zaf _ _ _ _ _ (@zbx _ _ _ _ _ _ _ _ Yx rfl (@zaU _ _ _ _ _ _ rfl G.range (@zaa _ _ _ _ _ (@zau _ _ _ _ _ _ _ _ _ (zcu rfl) (by rfl) G.max (by rfl) (@zaa _ _ _ _ _ zah (@zaa _ _ _ _ _ (@zau _ _ _ _ _ _ _ _ _ (zjW rfl) (by rfl) G.min (by rfl) (@zaa _ _ _ _ _ zah (@zaa _ _ _ _ _ (@zau _ _ _ _ _ _ _ _ _ zay (by rfl) G.len YT (@zaa _ _ _ _ _ (@qv _ 0 _ _ (by trivial)) zad (by rfl)) (by decide) (by decide) (by rfl) (by rfl)) zad (by rfl)) (by rfl)) (by decide) (by decide) (by rfl) (by rfl)) zad (by rfl)) (by rfl)) (by decide) (by decide) (by rfl) (by rfl)) zad (by rfl)) (by rfl)) (@zak _ _ 1 _ scW.nd rfl (.inl rfl) (by trivial)) (@zaf _ _ _ _ _ (@zaq _ _ 2 _ _ _ _ scW.nd rfl (.inl rfl) (@zal _ _ _ _ _ _ _ _ _ _ _ _ _ _ _ _ UL.ok aO (by rfl) UL.m UL.kp UL.b .nil zaw (@zaa _ _ _ _ _ (@qv _ 0 _ _ (by trivial)) (@zaa _ _ _ _ _ (@qv _ 1 _ _ (by trivial)) zad (by rfl)) (by rfl)) (by decide) (by rfl) (by rfl)) (by rfl) (by trivial)) (@zaf _ _ _ _ _ (@zaq _ _ 3 _ _ _ _ scW.nd rfl (.inl rfl) (@zal _ _ _ _ _ _ _ _ _ _ _ _ _ _ _ _ UN.ok hr (by rfl) UN.m UN.kp UN.b .nil zaw (@zaa _ _ _ _ _ (@qv _ 2 _ _ (by trivial)) zad (by rfl)) (by decide) (by rfl) (by rfl)) (by rfl) (by trivial)) (@zaf _ _ _ _ _ (@zaT _ _ _ _ _ _ (@zal _ _ _ _ _ _ _ _ _ _ _ _ _ _ _ _ UV.ok hr (by rfl) UV.m UV.kp UV.b .nil zaw (@zaa _ _ _ _ _ (@qv _ 3 _ _ (by trivial)) (@zaa _ _ _ _ _ zah zad (by rfl)) (by rfl)) (by decide) (by rfl) (by rfl)) (@zaV _ _ _ _ _ _ rfl (@zam _ _ _ _ _ (@zak _ _ 4 _ scW.nd rfl (.inl rfl) (by trivial)) (@zam _ _ _ _ _ (@zak _ _ 5 _ scW.nd rfl (.inl rfl) (by trivial)) zaF (by rfl)) (by rfl)) (by rfl) (by rfl)) (by rfl) (by rfl) (by rfl)) (@zaf _ _ _ _ _ (@zbw _ _ _ _ _ _ _ _ (@zaE _ _ _ _ _ _ _ _ zen (@qv _ 4 _ _ (by trivial)) zbN (zaR _)) (@zai _ _ _ (@zbw _ _ _ _ _ _ _ _ (@zme _ _ _ _ _ _ _ (@zgB _ _ _ _ (@zeS _ _ _ (@zal _ _ _ _ _ _ _ _ _ _ _ _ _ _ _ _ D.ok aj (by rfl) D.m D.kp D.b .nil zaw (@zaa _ _ _ _ _ (@qv _ 3 _ _ (by trivial)) (@zaa _ _ _ _ _ (@zba _ _ _ _ (@zaa _ _ _ _ _ (@qv _ 5 _ _ (by trivial)) zad (by rfl))) (@zaa _ _ _ _ _ zem zad (by rfl)) (by rfl)) (by rfl)) (by decide) (by rfl) (by rfl)) (by intro _;rfl))) (@zlu _ _ _ _ (@zgB _ _ _ _ (@zeS _ _ _ (@zal _ _ _ _ _ _ _ _ _ _ _ _ _ _ _ _ D.ok aj (by rfl) D.m D.kp D.b .nil zaw (@zaa _ _ _ _ _ (@qv _ 3 _ _ (by trivial)) (@zaa _ _ _ _ _ (@zal _ _ _ _ _ _ _ _ _ _ _ _ _ _ _ _ UH.ok L (by rfl) UH.m UH.kp UH.b .nil zaw (@zaa _ _ _ _ _ (@zaP _ _ _ _ _ _ _ zbc (@qv _ 5 _ _ (by trivial)) zah (λ_ _=>rfl)) (@zaa _ _ _ _ _ (@zaP _ _ _ _ _ _ _ zbc (@qv _ 5 _ _ (by trivial)) zah (λ_ _=>rfl)) zad (by rfl)) (by rfl)) (by decide) (by rfl) (by rfl)) (@zaa _ _ _ _ _ zem zad (by rfl)) (by rfl)) (by rfl)) (by decide) (by rfl) (by rfl)) (by intro _;rfl))))).pt (@zai _ _ _ (@zap _ _ _ _ zem)) zaI)) zaI) (@zai _ _ _ (@zbw _ _ _ _ _ _ _ _ (@zaE _ _ _ _ _ _ _ _ zen (@qv _ 4 _ _ (by trivial)) zbN (zaR _)) (@zaf _ _ _ _ _ (@zaq _ _ 6 _ _ _ _ scW.nd rfl (.inl rfl) (@zba _ _ _ _ zad) (by rfl) (by trivial)) (@zaf _ _ _ _ _ (@zbx _ _ _ _ _ _ _ _ Yx rfl (@zaU _ _ _ _ _ _ rfl G.range (@zaa _ _ _ _ _ zah zad (by rfl)) (by rfl)) (@zak _ _ 7 _ scW.nd rfl (.inr rfl) (by trivial)) (@zai _ _ _ (@zbg _ _ _ _ (@zdc _ _ _ _ _ _ _ _ _ _ _ _ Yp PySem.F.slot_list_extend PySem.F.type_list_extend ze0 (@qv _ 6 _ _ (by trivial)) (@zaa _ _ _ _ _ (@zeW _ _ _ _ none _ _ _ _ _ _ ["_law_n","_law_m"] [none,some 7] rfl (@zaU _ _ _ _ _ _ rfl G.range (@zaa _ _ _ _ _ zah zad (by rfl)) (by rfl)) (CapOk.of (by kernel_rfl)) (λ_ _ _ _ _=>(@zak _ _ 0 _ (show (["_law_n","_law_m"]:List Str).Nodup from by decide +kernel) rfl (.inl rfl) (.inr rfl))) (λ_ _ _ _ _=>zbu) (λ_ _ _ _ _=>(@zaB _ _ _ _ _ (@zaa _ _ _ _ _ (@qv _ 1 _ _ (by trivial)) (@zaa _ _ _ _ _ (@qv _ 0 _ _ (by trivial)) zad (by rfl)) (by rfl)))) (by intro _;rfl)) zad (by rfl)) (by rfl) (by rfl) (by rfl) (by rfl) (by rfl)) (by rfl))) (by intro _;rfl)) (@zaf _ _ _ _ _ (@zbx _ _ _ _ _ _ _ _ Yx rfl (@zaU _ _ _ _ _ _ rfl G.range (@zaa _ _ _ _ _ zah zad (by rfl)) (by rfl)) (@zak _ _ 8 _ scW.nd rfl (.inl rfl) (by trivial)) (@zaf _ _ _ _ _ (@zaq _ _ 9 _ _ _ _ scW.nd rfl (.inl rfl) (@zao _ _ _ _ _ _ _ _ zaJ (@zat _ _ _ _ _ _ _ _ _ zeD (by rfl) G.int (by rfl) (@zaa _ _ _ _ _ (@zao _ _ _ _ _ _ _ _ zdN zbN (@zao _ _ _ _ _ _ _ _ ziH zbN (@zal _ _ _ _ _ _ _ _ _ _ _ _ _ _ _ _ d.ok L (by rfl) d.m d.kp d.b .nil zaw (@zaa _ _ _ _ _ (@qv _ 2 _ _ (by trivial)) (@zaa _ _ _ _ _ zah zad (by rfl)) (by rfl)) (by decide) (by rfl) (by rfl)))) zad (by rfl)) (by decide) (by decide) (by rfl) (by rfl)) (@zal _ _ _ _ _ _ _ _ _ _ _ _ _ _ _ _ d.ok L (by rfl) d.m d.kp d.b .nil zaw (@zaa _ _ _ _ _ (@qv _ 2 _ _ (by trivial)) (@zaa _ _ _ _ _ zah zad (by rfl)) (by rfl)) (by decide) (by rfl) (by rfl))) (by rfl) (by trivial)) (@zaf _ _ _ _ _ (@zbg _ _ _ _ (@zdc _ _ _ _ _ _ _ _ _ _ _ _ Yp YJ YK zaW (@qv _ 6 _ _ (by trivial)) (@zaa _ _ _ _ _ (@zaB _ _ _ _ _ (@zaa _ _ _ _ _ (@qv _ 9 _ _ (by trivial)) (@zaa _ _ _ _ _ (@zal _ _ _ _ _ _ _ _ _ _ _ _ _ _ _ _ d.ok L (by rfl) d.m d.kp d.b .nil zaw (@zaa _ _ _ _ _ (@qv _ 2 _ _ (by trivial)) (@zaa _ _ _ _ _ (@zao _ _ _ _ _ _ _ _ zlx zah zah) zad (by rfl)) (by rfl)) (by decide) (by rfl) (by rfl)) zad (by rfl)) (by rfl))) zad (by rfl)) (by rfl) (by rfl) (by rfl) (by rfl) (by rfl)) (by rfl)) (@zai _ _ _ (@zbg _ _ _ _ (@zdc _ _ _ _ _ _ _ _ _ _ _ _ Yp YJ YK zaW (@qv _ 6 _ _ (by trivial)) (@zaa _ _ _ _ _ (@zaB _ _ _ _ _ (@zaa _ _ _ _ _ (@zal _ _ _ _ _ _ _ _ _ _ _ _ _ _ _ _ d.ok L (by rfl) d.m d.kp d.b .nil zaw (@zaa _ _ _ _ _ (@qv _ 2 _ _ (by trivial)) (@zaa _ _ _ _ _ zah zad (by rfl)) (by rfl)) (by decide) (by rfl) (by rfl)) (@zaa _ _ _ _ _ (@qv _ 9 _ _ (by trivial)) zad (by rfl)) (by rfl))) zad (by rfl)) (by rfl) (by rfl) (by rfl) (by rfl) (by rfl)) (by rfl))))) (by intro _;rfl)) (@zai _ _ _ (@zbw _ _ _ _ _ _ _ _ (@zgB _ _ _ _ (@zeS _ _ _ (@zal _ _ _ _ _ _ _ _ _ _ _ _ _ _ _ _ D.ok aj (by rfl) D.m D.kp D.b .nil zaw (@zaa _ _ _ _ _ (@qv _ 3 _ _ (by trivial)) (@zaa _ _ _ _ _ (@qv _ 6 _ _ (by trivial)) (@zaa _ _ _ _ _ zem zad (by rfl)) (by rfl)) (by rfl)) (by decide) (by rfl) (by rfl)) (by intro _;rfl))) (@zai _ _ _ (@zap _ _ _ _ zem)) zaI))))) zaI)))))) (by intro _;rfl)) (@zai _ _ _ (@zap _ _ _ _ zem))),?_⟩;refine⟨_,rfl,a,_,rfl,.inl hS,_,_,rfl,_,_,rfl,_,rfl,?_,?_,?_⟩
 ·split<;>split<;>lia
 ·rw[Jm];split<;>split<;>lia
 refine zbC (lo:=0) (λi σ H2=>(∃ v1 v2 v3 v4 v5 v6 v7 v8 v9,σ=[some (.ref a),v1,v2,v3,v4,v5,v6,v7,v8,v9])/\Scr K a (ns.map V.int) H2/\TabQ qM Pt H2) ⟨⟨_,_,_,_,_,_,_,_,_,rfl⟩,Scr.of hS,tab⟩ ?_ (λσ H2 _=>k H2);rintro i σ H2 hi ⟨⟨v1,v2,v3,v4,v5,v6,v7,v8,v9,rfl⟩,scr,tab⟩
 have ib:i<31:=by
  have:(if (if ((ns.map V.int).length:Int)<4 then ((ns.map V.int).length:Int) else 4) > 1 then (if ((ns.map V.int).length:Int)<4 then ((ns.map V.int).length:Int) else 4) else 1)<=30:=by split<;>split<;>lia
  lia
 clear hi;refine⟨_,rfl,_,rfl,a,ns,_,rfl,scr.sq,aQ,by lia,by lia,λl H3 hl s3 S3=>?_⟩
 have ai:LE K a l Pt (ns.map V.int) H3:=⟨S3,tab.same s3,scr.keep λo e _=>.inr (s3 _ _ e),by
  rcases scr with z|⟨o,z⟩|z
  ·exact .inl (zae z hl)
  ·exact .inl (zae z hl)
  ·exact .inr z⟩
 clear scr tab s3 hl S3;refine⟨_,rfl,l,rfl,ai.S,λr fr er ps N H4 ok ev ag S4 B4=>?_⟩;have W:=ai.pick S4 B4;have l1:=ok.l1;have l2:2<=N.lanes:=by lia
 refine⟨_,rfl,r,fr,er,ps,N,4000,rfl,ok,ev,ag,by decide,by decide,W.tab,λp H5 B5 aa tell=>?_⟩;have C:=W.ver aa B5;have af:=ag.tups (zka W.tab B5);clear ai W B4 B5 S4 aa ag;have ca:=zjS (step:=za2 N) (moves:=[0,1]) (k0:=k0M N) (c0:=[0,0]) (most:=4000)
 cases hR:ze3 N 4000 with
 | opn =>
  rw[hR]at tell;refine⟨p,_,rfl,SqT.of tell,rfl,_,_,rfl,_,_,rfl,rfl,?_⟩;refine⟨_,rfl,rfl,false,JR V.bl (Jv λz=>absurd (V.str.inj z) (by decide)),iteF ?_⟩
  exact⟨_,rfl,rfl,false,JR V.bl (Jv λz=>absurd (V.str.inj z) (by decide)),iteF ⟨⟨_,_,_,_,_,_,_,_,_,rfl⟩,C.scr,C.tab⟩⟩
 | brk c =>
  rw[hR]at tell;rw[show za5 (za2 N) [0,1] 4000 (4000+1) [(k0M N,[0,0])] [] []=.brk c from hR]at ca;obtain⟨cb,hq,hc⟩:=tell;obtain⟨t,t4,B⟩:=ca;obtain⟨x,y,rfl,xy⟩:=zna B;refine⟨p,_,rfl,SqT.of hq,rfl,_,_,rfl,_,_,rfl,rfl,?_⟩;refine⟨_,rfl,rfl,true,JR V.bl (JG rfl),iteT ?_⟩;refine⟨_,rfl,_,rfl,by show 1<=sizeLine;decide,λaM aD=>?_⟩;have s6:=zac aD (.lst [.ref cb]);refine⟨r,fr,er,ps,N,aM,[.ref cb],[(x,y)],false,rfl,ok,ev,af.tups (Tups.of s6),atN aD _,⟨⟨cb,rfl,s6 _ _ hc⟩,trivial⟩,λf hf=>?_,λH7 s7=>⟨_,rfl,iteF ?_⟩⟩
  ·rw[Jd.mp hf]
   exact⟨λz=>absurd z (zkW ok l2 ev B),λz=>absurd z (by decide)⟩
  have u7:=s6.trans s7;refine⟨_,rfl,_,rfl,cb,_,_,_,rfl,rfl,SqT.of (u7 _ _ hc),rfl,_,rfl,cb,_,_,_,rfl,rfl,SqT.of (u7 _ _ hc),rfl,x,y,rfl,by lia,λlA xs fs m Z hA pA al=>?_⟩;have u8:=u7.trans Z;refine⟨r,fr,er,ps,N,lA,xs,fs,true,rfl,ok,ev,af.tups (Tups.of u8),hA,pA,λf hf=>⟨λ_=>rfl,λ_=>?_⟩,λH9 Y=>⟨_,rfl,iteF ?_⟩⟩
  ·rcases al f hf with z|⟨z,z2⟩
   ·exact zhw ok l2 ev B (by lia)
   ·exact zi5 ok l2 ev B (by lia) z2
  have J:=C.same (u8.trans Y)
  exact⟨_,rfl,rfl,false,JR V.bl (Jv λz=>absurd (V.str.inj z) (by decide)),iteF ⟨⟨_,_,_,_,_,_,_,_,_,rfl⟩,J.scr,J.tab⟩⟩
 | whl ls =>
  rw[hR]at tell;rw[show za5 (za2 N) [0,1] 4000 (4000+1) [(k0M N,[0,0])] [] []=.whl ls from hR]at ca;obtain⟨bk,hq⟩:=tell;have sh:=ca.1;refine⟨p,_,rfl,SqT.of hq,rfl,_,_,rfl,_,_,rfl,rfl,?_⟩;refine⟨_,rfl,rfl,false,JR V.bl (Jv λz=>absurd (V.str.inj z) (by decide)),iteF ?_⟩;refine⟨_,rfl,rfl,true,JR V.bl (JG rfl),iteT ?_⟩;refine⟨by show 0<=sizeLine;decide,λI X=>?_⟩;have s6:=zac X (.lst []);have aL:=C.same s6;have aK:=af.tups (Tups.of s6);have g:I≠l:=(C.S.ne X).symm;have ao:=znP C X;have h6:=atN X (.lst []);refine⟨_,rfl,by decide,by decide,?_⟩;refine zbC (lo:=0) (n:=16) (λj σ H7=>(∃ v7,σ=[some (.ref a),some (.int (0+(i:Nat))),some (.ref l),some (.ref r),some (.str "merges"),some (.ref bk),some (.ref I),v7,v8,v9])/\LE K a l Pt (ns.map V.int) H7/\NetAt H7 r fr er ps N/\∃ xs fs,H7 I=some (.lst xs)/\Prs H7 xs fs/\xs.length<=j*16) ⟨⟨_,rfl⟩,aL,aK,[],[],h6,trivial,JS _⟩ ?_ ?_
  ·rintro j σ H7 hj ⟨⟨v7,rfl⟩,ah,ae,xs,fs,h7,pr,xl⟩
   refine⟨_,rfl,.inl ⟨rfl,_,SqL.of h7⟩,_,rfl,by decide,by decide,λaz ak=>?_⟩;refine zcj (lo:=0) (n:=16) (λo acc σ m=>(∃ v0,σ=[v0,some (.int (0+(j:Nat)))])/\Same H7 m/\m az=some (.lst acc)/\acc.length=o/\∃ gs,Prs m acc gs) ⟨⟨_,rfl⟩,zac ak _,atN ak _,rfl,[],trivial⟩ (λo acc σ m z=>z.2.2.1) ?_ ?_
   ·rintro o acc σ m ho ⟨⟨v0,rfl⟩,Z,h8,ap,gs,pg⟩
    refine⟨_,rfl,_,rfl,by show 2<=sizeLine;decide,λt ht=>?_⟩;have Y:=zac ht (.tup [.int (0+((j:Nat):Int)),.int (0+((o:Nat):Int))]);have h9:=Y _ _ h8;have aN:=atN ht (.tup [.int (0+((j:Nat):Int)),.int (0+((o:Nat):Int))]);refine⟨h9,by rw[ap,JM];lia,nx ho ⟨⟨_,rfl⟩,λb u e=>?_,zab,by rw[Jn,ap];rfl,gs++[(j,o)],?_⟩⟩
    ·rw[zag (zae e ak)];exact Y _ _ (Z b u e)
    ·refine Prs.add (f:=(j,o)) (Tups.lst h9 _ _ ?_) ((pg.tups (Tups.of Y)).tups (Tups.lst h9))
     have q:=aN;rw[Wr,Wr]at q;rw[Wr,Wr];exact q
   rintro acc σ m ⟨⟨v0,rfl⟩,Z,h8,ap,gs,pg⟩;have M:=Z _ _ h7;refine⟨I,az,xs,acc,rfl,rfl,M,h8,by rw[JM];lia,⟨_,rfl⟩,(ah.same Z).list M g ao,(ae.tups (Tups.of Z)).tups (Tups.lst M),xs++acc,fs++gs,zab,Prs.app ((pr.tups (Tups.of Z)).tups (Tups.lst M)) (pg.tups (Tups.lst M)),?_⟩;rw[Jn];lia
  rintro σ H7 ⟨⟨v7,rfl⟩,ah,ae,xs,fs,h7,pr,xl⟩;refine⟨_,rfl,by decide,by decide,?_⟩;refine zbC (lo:=0) (n:=12) (λj σ m=>(∃ v8 v9,σ=[some (.ref a),some (.int (0+(i:Nat))),some (.ref l),some (.ref r),some (.str "merges"),some (.ref bk),some (.ref I),v7,v8,v9])/\LE K a l Pt (ns.map V.int) m/\NetAt m r fr er ps N/\∃ xs fs,m I=some (.lst xs)/\Prs m xs fs/\xs.length<=256+j*2) ⟨⟨_,_,rfl⟩,ah,ae,xs,fs,h7,pr,by lia⟩ ?_ ?_
  ·rintro j σ m hj ⟨⟨v8,v9,rfl⟩,v,ad,xs,fs,h8,pr,xl⟩
   refine⟨_,rfl,l,29,rfl,by decide,by decide,v.S,λz H9 hz S9 B9=>?_⟩;refine⟨48,_,rfl,rfl,by lia,by lia,λzs aA=>?_⟩;obtain⟨d1,d2,d3⟩:=zjb aA
   have zl:zs.length=((z:Nat):Int).toNat:=by
    have:=JR List.length aA;rw[Ju,Yh]at this;exact this
   refine⟨_,_,rfl,rfl,by rw[zl];exact JX (show 1+((z:Nat):Int).toNat<=100 by lia) (by decide),_,rfl,d1,by lia,by lia,?_⟩;generalize PySem.NumText.digitsVal (("1":Str)++zs).cps.toList=big;have J:=v.pick S9 B9;refine⟨_,rfl,l,64,rfl,by decide,by decide,S9,λy aY hy aG au=>⟨_,_,rfl,rfl,?_⟩⟩;have ab:=J.pick aG au;have aI:=(B9.tups v.S).trans (au.tups J.S);have aF:=au _ _ (B9 _ _ h8 g) g;refine⟨_,rfl,.inl ⟨rfl,_,SqL.of aF⟩,_,rfl,_,rfl,_,_,rfl,rfl,⟨by decide,by decide,by decide⟩,l,_,rfl,by decide,by decide,aG,λu aV hu aU ar=>⟨by show 2<=sizeLine;decide,λt1 aC=>?_⟩⟩;have aw:=ab.pick aU ar;have ay:=aI.trans (ar.tups ab.S);have aS:=ar _ _ aF g;have U:=zac aC (.tup [.int (((big:Nat):Int)+((y:Nat):Int)),.int (u:Nat)]);have R:=U _ _ aS;refine⟨I,xs,_,rfl,rfl,R,by rw[JM];lia,?_⟩;have S:=(aw.same U).list (zs:=xs++[.ref t1]) R g ao;have aH:=(ay.trans (Tups.of U)).trans (Tups.lst (ys:=xs++[.ref t1]) R);have aJ:=Prs.add (f:=(big+y,u)) (Tups.lst (ys:=xs++[.ref t1]) R _ _ (atN aC _)) (((pr.tups ay).tups (Tups.of U)).tups (Tups.lst (ys:=xs++[.ref t1]) R));have aE:L2.upd (L2.upd aV t1 (.tup [.int (((big:Nat):Int)+((y:Nat):Int)),.int (u:Nat)])) I (.lst (xs++[.ref t1])) I=some (.lst (xs++[.ref t1])):=zab;refine⟨_,rfl,.inl ⟨rfl,_,SqL.of aE⟩,_,rfl,l,100,rfl,by decide,by decide,S.S,λu2 aX aW aT aq=>?_⟩;have av:=S.pick aT aq;have ax:=aq.tups S.S;have aR:=aq _ _ aE g;refine⟨_,rfl,by show 2<=sizeLine;decide,λt2 aB=>?_⟩;have T:=zac aB (.tup [.int (u2:Nat),.int (((big:Nat):Int)+((y:Nat):Int))]);have O:=T _ _ aR;refine⟨I,_,_,rfl,rfl,O,by rw[Jn,JM];show xs.length+1<_;lia,⟨_,_,rfl⟩,(av.same T).list O g ao,(((ad.tups aH).tups ax).tups (Tups.of T)).tups (Tups.lst O),_,_,zab,Prs.add (f:=(u2,big+y)) (Tups.lst O _ _ (atN aB _)) (((aJ.tups ax).tups (Tups.of T)).tups (Tups.lst O)),?_⟩;rw[Jn,Jn];show xs.length+1+1<=_;lia
  rintro σ m ⟨⟨v8,v9,rfl⟩,v,ad,xs,fs,h8,pr,xl⟩;refine⟨_,rfl,_,rfl,r,fr,er,ps,N,I,xs,fs,true,rfl,ok,ev,ad,h8,pr,λf hf=>⟨λ_=>rfl,λ_=>zi4 ok l2 ev sh f.1 f.2⟩,λH9 Y=>⟨_,rfl,iteF ?_⟩⟩;exact⟨⟨_,_,_,_,_,_,_,_,_,rfl⟩,(v.same Y).scr,(v.same Y).tab⟩
end
structure FnAt (K:PySem.W.Frag) (x:Str) (st:Stmt) (f:Addr) (fd:FuncData):Prop where
 ns:PySem.W.nsIn K mainGlobals x=some (some (.ref f))
 fn:Fun K x x st f fd
theorem zaL {K:PySem.W.Frag}{x:Str}{st:Stmt}{f:Addr}{oc:Value}{od an:Option Addr}{osl:Array (Option Value)}{kV doc pm cdv ct:Value}(a:PySem.W.nsIn K mainGlobals x=some (some (.ref f)))
  (l:K.lookup f=some ⟨oc,od,.func (PySem.W.fnOf x x (zbI st) (zbb st) (zaj st) .none kV doc pm an cdv ct),osl⟩) (c:PySem.W.codeIn K cdv x=true) (k:PySem.W.keepIn K (.ref f)=true):FnAt K x st f (PySem.W.fnOf x x (zbI st) (zbb st) (zaj st) .none kV doc pm an cdv ct):=⟨a,znZ l c k⟩
structure FnAtC (K:PySem.W.Frag) (x:Str) (st:Stmt) (f:Addr) (fd:FuncData) (c:Addr):Prop where
 ns:PySem.W.nsIn K mainGlobals x=some (some (.ref f))
 fn:FunC K x x st f fd c
theorem zn1 {K:PySem.W.Frag}{x:Str}{st:Stmt}{f c:Addr}{oc:Value}{od an:Option Addr}{osl:Array (Option Value)}{kV doc pm ct:Value}(a:PySem.W.nsIn K mainGlobals x=some (some (.ref f)))
  (l:K.lookup f=some ⟨oc,od,.func (PySem.W.fnOf x x (zbI st) (zbb st) (zaj st) .none kV doc pm an (.ref c) ct),osl⟩) (cd:PySem.W.codeIn K (.ref c) x=true) (k:PySem.W.keepIn K (.ref f)=true):FnAtC K x st f (PySem.W.fnOf x x (zbI st) (zbb st) (zaj st) .none kV doc pm an (.ref c) ct) c:=⟨a,⟨⟨_,_,_,_,_,_,_,_,rfl,l,cd⟩,k⟩⟩
theorem _root_.L2.FunC.fun {K:PySem.W.Frag}{x qual:Str}{st:Stmt}{f:Addr}{fd:FuncData}{c:Addr}(F:FunC K x qual st f fd c):Fun K x qual st f fd:=by
 obtain⟨oc,od,kV,doc,pm,an,ct,osl,e,l,q⟩:=F.ex;exact⟨⟨oc,od,kV,doc,pm,an,.ref c,ct,osl,e,l,q⟩,F.kp⟩
theorem zjO {K:PySem.W.Frag}{c P:Addr}{od:Option Addr}{vs:Array Value}{osl:Array (Option Value)}(l:K.lookup c=some ⟨.type "code",od,.fields vs,osl⟩) (e:PySem.W.codeHdIn [(c,⟨.type "code",od,.fields vs,osl⟩)] c P=true):PySem.W.codeHdIn K c P=true:=by
 have q:List.lookup c [(c,(⟨.type "code",od,.fields vs,osl⟩:Obj))]=some ⟨.type "code",od,.fields vs,osl⟩:=by rw[YF,beq_self_eq_true]
 unfold PySem.W.codeHdIn at e ⊢;rw[q]at e;rw[l];exact e
theorem us1 {us:List Value}(h:us.length=1):∃ a,us=[a]:=by
 match us,h with
 | [a],_=>exact⟨a,rfl⟩
theorem us2 {us:List Value}(h:us.length=2):∃ b a,us=[b,a]:=by
 match us,h with
 | [b,a],_=>exact⟨b,a,rfl⟩
theorem us3 {us:List Value}(h:us.length=3):∃ c b a,us=[c,b,a]:=by
 match us,h with
 | [c,b,a],_=>exact⟨c,b,a,rfl⟩
theorem us4 {us:List Value}(h:us.length=4):∃ c b a u3,us=[c,b,a,u3]:=by
 match us,h with
 | [c,b,a,u3],_=>exact⟨c,b,a,u3,rfl⟩
theorem us5 {us:List Value}(h:us.length=5):∃ d c b u3 a,us=[d,c,b,u3,a]:=by
 match us,h with
 | [d,c,b,u3,a],_=>exact⟨d,c,b,u3,a,rfl⟩
set_option maxHeartbeats 4000001 in
theorem zn6 {l:PySem.W.OpenLaw}{w:World}{K:PySem.W.Frag}{h:Heap}{mg:Str->Option Value}{fa f1 f2 f3 f4 f5 f6 f7 f8 f9 aD aC aB aA az ay ax aw av au ar aq ap ao ak aj ai ah ag af ae ad ab aa bZ Z Y W bY:Addr}{d1 d2 d3 d4 d5 d6 d7 d8 d9 a7 a6 a5 a4 a3 a0 aZ aY aX aW aV aU aT aS aR aQ aP aO aN aM aL aK aJ aI cb aH aG aF aE:FuncData}(X:K.In h) (G:h.Ns mainGlobals mg) (bX:mg "law" = some (.ref fa))
  {f Pt:Addr}
  (A1:FnAt K "_law_cell_at" zl9 f1 d1)
  (A2:FnAt K "_law_left" zl7 f2 d2)
  (A3:FnAt K "_law_pick" zl5 f3 d3)
  (A4:FnAt K "_law_of" sOf f4 d4)
  (A5:FnAt K "_law_placed" zfH f5 d5)
  (A6:FnAt K "_law_net" sNet f6 d6)
  (A7:FnAt K "layers" zfL f7 d7)
  (A8:FnAt K "plain" ziq f8 d8)
  (A9:FnAt K "power_of_two" sPow f9 d9)
  (R:FnAt K "row_of" zio aD a7)
  (Q:FnAt K "net_of" zed aC a6)
  (P:FnAt K "by_turns" sBy aB a5)
  (O:FnAt K "merger_of" zcd aA a4)
  (N:FnAt K "merger" zfK az a3)
  (L:FnAt K "flowed" zfN ay a0)
  (J:FnAt K "ends_of" zl8 ax aZ)
  (I:FnAt K "stair_of" zl4 aw aY)
  (H:FnAt K "is_stair" zef av aX)
  (F:FnAt K "merges" zfJ au aW)
  (E:FnAt K "_law_stair" zfM ar aV)
  (D:FnAt K "_law_ends" zir aq aU)
  (C:FnAt K "_law_merges" zee ap aT)
  (B:FnAt K "_law_merging_net" zl6 ao aS)
  (A:FnAt K "end_of" sEnd ak aR)
  (z:FnAt K "run_through" sRun aj aQ)
  (y:FnAt K "passed" zfI ai aP)
  (x:FnAt K "given_at" zit ah aO)
  (u:FnAt K "added" ziu ag aN)
  (t:FnAt K "first_turns" zfO af aM)
  (r:FnAt K "first_knot" zfP ae aL)
  (q:FnAt K "knot_behind" zis ad aK)
  (o:FnAt K "next_level" sNxl ab aJ)
  (n:FnAt K "climbed" sClm aa aI)
  (m:FnAt K "book_of" zma bZ cb)
  (k:FnAtC K "merge_verdict" zeN Z aH f)
  (j:FnAt K "_law_all" zmb Y aG)
  (i:FnAt K "_law_ahead" sAhd W aF)
  (T:FnAt K "law" sLaw bY aE)
  (z1:PySem.W.nsIn K mainGlobals "len" = some none)
  (z2:PySem.W.nsIn K mainGlobals "range" = some none)
  (z3:PySem.W.nsIn K mainGlobals "tuple" = some none)
  (z4:PySem.W.nsIn K mainGlobals "enumerate" = some none)
  (z5:PySem.W.nsIn K mainGlobals "abs" = some none)
  (z6:PySem.W.nsIn K mainGlobals "zip" = some none)
  (z7:PySem.W.nsIn K mainGlobals "isinstance" = some none)
  (z8:PySem.W.nsIn K mainGlobals "all" = some none)
  (z9:PySem.W.nsIn K mainGlobals "sum" = some none)
  (bi:PySem.W.nsIn K mainGlobals "bool" = some none)
  (bh:PySem.W.nsIn K mainGlobals "int" = some none)
  (bg:PySem.W.nsIn K mainGlobals "str" = some none)
  (bf:PySem.W.nsIn K mainGlobals "max" = some none)
  (be:PySem.W.nsIn K mainGlobals "min" = some none)
  (bc:PySem.W.nsIn K mainGlobals "sorted" = some none)
  (bb:PySem.W.nsIn K mainGlobals "list" = some none)
  {S:Addr}{bW bV:Tok}{bl:Array (Option Value)}{bn:Nat}{b0:Option Addr}(ba:PySem.W.nsIn K mainGlobals "HALVES" = some (some (.ref S))) (bU:K.lookup S=some ⟨.type "tuple",b0,.seq #[.int 0 bW,.int 1 bV] bn,bl⟩)
  (cH:PySem.W.codeHdIn K f Pt=true) (bo:mainGlobals≠Pt) (kP:K.lookup Pt=none)
  (zd:PySem.W.nsIn K cStatics "sys.int_max_str_digits" = some none)
  : (K.lookup Pt=none/\∃ c,PySem.W.codeHdIn K c Pt=true)/\∃ fd:FuncData,(∀ (s:Shared) (v:Value),BindsTo s fd ⟨[v],[]⟩ [("_law_script",v)])/\∀ base:Heap,K.In base->base.Ns mainGlobals mg->(∀ p∈[Pt],base.BuiltinsAt mg p)->FnOk l.prog w K mg base CX0 9 fa fd ["_law_script"] (zkf K Pt):=by
 have e:=bX.symm.trans (JD X G T.ns);cases e;have M:Mgs mg:=⟨Yc X G z1,Yc X G z2,Yc X G z3,Yc X G z4,Yc X G z5,Yc X G z6,Yc X G z7,Yc X G z8,Yc X G z9,Yc X G bi,Yc X G bh,Yc X G bg,Yc X G bf,Yc X G be,Yc X G bc,Yc X G bb⟩;have b1:=A1.fn.binds (ps:=["_law_script","_law_k"]) λ_ _ _ _ _ _ us a=>by obtain⟨b,d,rfl⟩:=us2 a;rfl
 have m1:=JD X G A1.ns;have b2:=A2.fn.binds (ps:=["_law_script","_law_k"]) λ_ _ _ _ _ _ us a=>by obtain⟨b,d,rfl⟩:=us2 a;rfl
 have m2:=JD X G A2.ns;have b3:=A3.fn.binds (ps:=["_law_left_here","_law_many"]) λ_ _ _ _ _ _ us a=>by obtain⟨b,d,rfl⟩:=us2 a;rfl
 have m3:=JD X G A3.ns;have b4:=A4.fn.binds (ps:=["_law_left_here","_law_some"]) λ_ _ _ _ _ _ us a=>by obtain⟨b,d,rfl⟩:=us2 a;rfl
 have m4:=JD X G A4.ns;have b5:=A5.fn.binds (ps:=["_law_left_here","_law_some"]) λ_ _ _ _ _ _ us a=>by obtain⟨b,d,rfl⟩:=us2 a;rfl
 have m5:=JD X G A5.ns;have b6:=A6.fn.binds (ps:=["_law_left_here","_law_lanes","_law_most"]) λ_ _ _ _ _ _ us a=>by obtain⟨b,d,g,rfl⟩:=us3 a;rfl
 have m6:=JD X G A6.ns;have b7:=A7.fn.binds (ps:=["net"]) λ_ _ _ _ _ _ us a=>by obtain⟨b,rfl⟩:=us1 a;rfl
 have m7:=JD X G A7.ns;have b8:=A8.fn.binds (ps:=["net"]) λ_ _ _ _ _ _ us a=>by obtain⟨b,rfl⟩:=us1 a;rfl
 have m8:=JD X G A8.ns;have b9:=A9.fn.binds (ps:=["many"]) λ_ _ _ _ _ _ us a=>by obtain⟨b,rfl⟩:=us1 a;rfl
 have m9:=JD X G A9.ns;have cM:=R.fn.binds (ps:=["k"]) λ_ _ _ _ _ _ us a=>by obtain⟨b,rfl⟩:=us1 a;rfl
 have bT:=JD X G R.ns;have cL:=Q.fn.binds (ps:=["row","made"]) λ_ _ _ _ _ _ us a=>by obtain⟨b,d,rfl⟩:=us2 a;rfl
 have bS:=JD X G Q.ns;have cK:=P.fn.binds (ps:=["one","other"]) λ_ _ _ _ _ _ us a=>by obtain⟨b,d,rfl⟩:=us2 a;rfl
 have bR:=JD X G P.ns;have a8:=O.fn.binds (ps:=["one","other"]) λ_ _ _ _ _ _ us a=>by obtain⟨b,d,rfl⟩:=us2 a;rfl
 have V:=JD X G O.ns;have cJ:=N.fn.binds (ps:=["k"]) λ_ _ _ _ _ _ us a=>by obtain⟨b,rfl⟩:=us1 a;rfl
 have bQ:=JD X G N.ns;have cI:=L.fn.binds (ps:=["net","counts"]) λ_ _ _ _ _ _ us a=>by obtain⟨b,d,rfl⟩:=us2 a;rfl
 have bP:=JD X G L.ns;have cG:=J.fn.binds (ps:=["net","counts"]) λ_ _ _ _ _ _ us a=>by obtain⟨b,d,rfl⟩:=us2 a;rfl
 have bO:=JD X G J.ns;have cF:=I.fn.binds (ps:=["total","many"]) λ_ _ _ _ _ _ us a=>by obtain⟨b,d,rfl⟩:=us2 a;rfl
 have bN:=JD X G I.ns;have cE:=H.fn.binds (ps:=["counts"]) λ_ _ _ _ _ _ us a=>by obtain⟨b,rfl⟩:=us1 a;rfl
 have bM:=JD X G H.ns;have cD:=F.fn.binds (ps:=["net","m","n"]) λ_ _ _ _ _ _ us a=>by obtain⟨b,d,g,rfl⟩:=us3 a;rfl
 have bL:=JD X G F.ns;have cC:=E.fn.binds (ps:=["_law_total","_law_many"]) λ_ _ _ _ _ _ us a=>by obtain⟨b,d,rfl⟩:=us2 a;rfl
 have bK:=JD X G E.ns;have cB:=D.fn.binds (ps:=["_law_net_here","_law_counts"]) λ_ _ _ _ _ _ us a=>by obtain⟨b,d,rfl⟩:=us2 a;rfl
 have bJ:=JD X G D.ns;have cA:=C.fn.binds (ps:=["_law_net_here","_law_m","_law_n"]) λ_ _ _ _ _ _ us a=>by obtain⟨b,d,g,rfl⟩:=us3 a;rfl
 have bI:=JD X G C.ns;have cz:=B.fn.binds (ps:=["_law_left_here"]) λ_ _ _ _ _ _ us a=>by obtain⟨b,rfl⟩:=us1 a;rfl
 have bH:=JD X G B.ns;have cy:=A.fn.binds (ps:=["net","lane"]) λ_ _ _ _ _ _ us a=>by obtain⟨b,d,rfl⟩:=us2 a;rfl
 have bG:=JD X G A.ns;have cx:=z.fn.binds (ps:=["net","turns","lane","back"]) λ_ _ _ _ _ _ us a=>by obtain⟨b,d,g,u3,rfl⟩:=us4 a;rfl
 have bF:=JD X G z.ns;have cw:=y.fn.binds (ps:=["net","turns","lane"]) λ_ _ _ _ _ _ us a=>by obtain⟨b,d,g,rfl⟩:=us3 a;rfl
 have bE:=JD X G y.ns;have cv:=x.fn.binds (ps:=["row","place","value"]) λ_ _ _ _ _ _ us a=>by obtain⟨b,d,g,rfl⟩:=us3 a;rfl
 have bD:=JD X G x.ns;have cu:=u.fn.binds (ps:=["counts","place","many"]) λ_ _ _ _ _ _ us a=>by obtain⟨b,d,g,rfl⟩:=us3 a;rfl
 have bC:=JD X G u.ns;have cq:=t.fn.binds (ps:=["net"]) λ_ _ _ _ _ _ us a=>by obtain⟨b,rfl⟩:=us1 a;rfl
 have bA:=JD X G t.ns;have cp:=r.fn.binds (ps:=["net"]) λ_ _ _ _ _ _ us a=>by obtain⟨b,rfl⟩:=us1 a;rfl
 have bz:=JD X G r.ns;have cn:=q.fn.binds (ps:=["net","knot","half"]) λ_ _ _ _ _ _ us a=>by obtain⟨b,d,g,rfl⟩:=us3 a;rfl
 have bx:=JD X G q.ns;have cm:=o.fn.binds (ps:=["level","seen","moves","led"]) λ_ _ _ _ _ _ us a=>by obtain⟨b,d,g,u3,rfl⟩:=us4 a;rfl
 have bw:=JD X G o.ns;have ck:=n.fn.binds (ps:=["first","counts","moves","led","most"]) λ_ _ _ _ _ _ us a=>by obtain⟨b,d,g,u3,u4,rfl⟩:=us5 a;rfl
 have bv:=JD X G n.ns;have cj:=m.fn.binds (ps:=["levels"]) λ_ _ _ _ _ _ us a=>by obtain⟨b,rfl⟩:=us1 a;rfl
 have bu:=JD X G m.ns;have cg:=k.fn.fun.binds (ps:=["net","most"]) λ_ _ _ _ _ _ us a=>by obtain⟨b,d,rfl⟩:=us2 a;rfl
 have bt:=JD X G k.ns;have cf:=j.fn.binds (ps:=["_law_net_here","_law_pairs","_law_due"]) λ_ _ _ _ _ _ us a=>by obtain⟨b,d,g,rfl⟩:=us3 a;rfl
 have br:=JD X G j.ns;have cc:=i.fn.binds (ps:=["_law_m","_law_n"]) λ_ _ _ _ _ _ us a=>by obtain⟨b,d,rfl⟩:=us2 a;rfl
 have bq:=JD X G i.ns;have bp:=JD X G ba;have bj:∀ H',SqT K H' S (nums [0,1]):=λH'=>.inr ⟨_,_,_,bU,rfl,rfl,(by show 2<=sizeLine;decide),.cons ⟨_,rfl⟩ (.cons ⟨_,rfl⟩ .nil)⟩;obtain⟨oc,od,kV,doc,pm,an,cdv,ct,osl,ed,_,_⟩:=id T.fn.ex;refine⟨⟨kP,f,cH⟩,aE,λs v=>by rw[ed];exact .of_eq rfl,λbase _ _ bB=>?_⟩;have CK:CodeK K mg base f Pt:=⟨cH,bB Pt (.head _),bo⟩;have U1:Use l.prog w K mg base "_law_cell_at" ["_law_script","_law_k"] 1 (zih K) f1 d1:=⟨zmA A1.fn M,b1,A1.fn.kp,m1⟩;have U2:Use l.prog w K mg base "_law_left" ["_law_script","_law_k"] 2 (zig K) f2 d2:=⟨zmy A2.fn M zd U1,b2,A2.fn.kp,m2⟩;have U:Use l.prog w K mg base "_law_pick" ["_law_left_here","_law_many"] 1 zc3 f3 d3:=⟨zmv A3.fn,b3,A3.fn.kp,m3⟩;have U4:Use l.prog w K mg base "_law_of" ["_law_left_here","_law_some"] 2 spOf f4 d4:=⟨zoq A4.fn M U,b4,A4.fn.kp,m4⟩;have U5:Use l.prog w K mg base "_law_placed" ["_law_left_here","_law_some"] 2 zd4 f5 d5:=⟨ziJ A5.fn M U,b5,A5.fn.kp,m5⟩;have U6:Use l.prog w K mg base "_law_net" ["_law_left_here","_law_lanes","_law_most"] 3 (zie 6) f6 d6:=⟨znF 6 (by decide) A6.fn M U U4 U5,b6,A6.fn.kp,m6⟩;have U7:Use l.prog w K mg base "layers" ["net"] 1 zd6 f7 d7:=⟨ziO A7.fn M,b7,A7.fn.kp,m7⟩;have U8:Use l.prog w K mg base "plain" ["net"] 2 zfC f8 d8:=⟨zkE A8.fn M U7,b8,A8.fn.kp,m8⟩;have U9:Use l.prog w K mg base "power_of_two" ["many"] 1 zlX f9 d9:=⟨znE A9.fn M,b9,A9.fn.kp,m9⟩;have de:Use l.prog w K mg base "row_of" ["k"] 2 zfB aD a7:=⟨zkD R.fn M U9,cM,R.fn.kp,bT⟩;have dd:Use l.prog w K mg base "net_of" ["row","made"] 3 zc4 aC a6:=⟨zho Q.fn M U8,cL,Q.fn.kp,bS⟩;have dc:Use l.prog w K mg base "by_turns" ["one","other"] 1 spBy aB a5:=⟨zor P.fn M,cK,P.fn.kp,bR⟩;have da:Use l.prog w K mg base "merger_of" ["one","other"] 6 zcx aA a4:=⟨zfT O.fn M dc a8 V,a8,O.fn.kp,V⟩;have c9:Use l.prog w K mg base "merger" ["k"] 7 zd5 az a3:=⟨ziM N.fn M de da dd,cJ,N.fn.kp,bQ⟩;have c8:Use l.prog w K mg base "flowed" ["net","counts"] 1 zd8 ay a0:=⟨ziP L.fn M,cI,L.fn.kp,bP⟩;have c7:Use l.prog w K mg base "ends_of" ["net","counts"] 2 zdG ax aZ:=⟨zmz J.fn M c8,cG,J.fn.kp,bO⟩;have a9:Use l.prog w K mg base "stair_of" ["total","many"] 1 zc2 aw aY:=⟨zmu I.fn M,cF,I.fn.kp,bN⟩;have c6:Use l.prog w K mg base "is_stair" ["counts"] 2 zc5 av aX:=⟨zhq H.fn M a9,cE,H.fn.kp,bM⟩;have c5:Use l.prog w K mg base "merges" ["net","m","n"] 3 zbV au aW:=⟨ziL F.fn a9 c6 c7,cD,F.fn.kp,bL⟩;have c4:Use l.prog w K mg base "_law_stair" ["_law_total","_law_many"] 1 zc2 ar aV:=⟨ziN E.fn M,cC,E.fn.kp,bK⟩;have c3:Use l.prog w K mg base "_law_ends" ["_law_net_here","_law_counts"] 1 zdG aq aU:=⟨zkG D.fn M,cB,D.fn.kp,bJ⟩;have c2:Use l.prog w K mg base "_law_merges" ["_law_net_here","_law_m","_law_n"] 2 zbV ap aT:=⟨zhp C.fn c4 c3,cA,C.fn.kp,bI⟩;have c1:Use l.prog w K mg base "_law_merging_net" ["_law_left_here"] 8 zif ao aS:=⟨zmx B.fn M U U4 U6 c9,cz,B.fn.kp,bH⟩;have c0:Use l.prog w K mg base "end_of" ["net","lane"] 1 zlY ak aR:=⟨znH A.fn,cy,A.fn.kp,bG⟩;have cZ:Use l.prog w K mg base "run_through" ["net","turns","lane","back"] 2 zlW aj aQ:=⟨znD z.fn M c0,cx,z.fn.kp,bF⟩;have cY:Use l.prog w K mg base "passed" ["net","turns","lane"] 3 (zic false) ai aP:=⟨ziK y.fn cZ,cw,y.fn.kp,bE⟩;have cX:Use l.prog w K mg base "given_at" ["row","place","value"] 1 zfE ah aO:=⟨zkI x.fn M,cv,x.fn.kp,bD⟩;have cW:Use l.prog w K mg base "added" ["counts","place","many"] 2 zfG ag aN:=⟨zkJ u.fn M cX,cu,u.fn.kp,bC⟩;have cV:Use l.prog w K mg base "first_turns" ["net"] 1 zd9 af aM:=⟨ziQ t.fn M,cq,t.fn.kp,bA⟩;have cU:Use l.prog w K mg base "first_knot" ["net"] 2 zea ae aL:=⟨ziR r.fn cV,cp,r.fn.kp,bz⟩;have cT:Use l.prog w K mg base "knot_behind" ["net","knot","half"] 4 zd7 ad aK:=⟨zkH q.fn cY,cn,q.fn.kp,bx⟩;have cS:Use l.prog w K mg base "next_level" ["level","seen","moves","led"] 6 (zid l.prog w K (lamM qM) ["net"] zcE) ab aJ:=⟨zmw o.fn M cW (zk7 qM cT),cm,o.fn.kp,bw⟩;have cR:Use l.prog w K mg base "climbed" ["first","counts","moves","led","most"] 7 (zfF l.prog w K (lamM qM) ["net"] zcE) aa aI:=⟨zhr n.fn M cS,ck,n.fn.kp,bv⟩;have cQ:Use l.prog w K mg base "merge_verdict" ["net","most"] 8 (zfD qM Pt) Z aH:=⟨zkF k.fn bp bj CK cR cU (λF0=>⟨zmB F0 2 m.fn M,cj,m.fn.kp,bu⟩),cg,k.fn.kp,bt⟩;have cP:Use l.prog w K mg base "_law_all" ["_law_net_here","_law_pairs","_law_due"] 4 zij Y aG:=⟨zmC j.fn M c5 c2,cf,j.fn.kp,br⟩;have cO:Use l.prog w K mg base "_law_ahead" ["_law_m","_law_n"] 1 zlZ W aF:=⟨znI i.fn M,cc,i.fn.kp,bq⟩;exact znG T.fn M U2 U c1 cQ cP cO
theorem walk {l:PySem.W.OpenLaw}{q:Program}{loose:List Str}{v:(Str->Option Value)->Heap->Prop}{i:World->Heap->Prop}{d:DefRec}{K:Params->PySem.W.Frag}{Pt:Addr}(hn:l.most=some 63) (g:d.params.defaults=[])
  (r:∀ (w:World) (h:Heap),i w h->(K w.params).In h/\∀ p∈[Pt],h.get? p=some (PySem.W.tabObj #[]))
  (F:∀ (w:World) (mg:Str->Option Value) (e:Addr) (h:Heap),(K w.params).In h->h.Ns mainGlobals mg->mg d.name=some (.ref e)->((K w.params).lookup Pt=none/\∃ c,PySem.W.codeHdIn (K w.params) c Pt=true) /\
   ∃ fd:FuncData,(∀ (s:Shared) (u:Value),BindsTo s fd ⟨[u],[]⟩ [("_law_script",u)])/\∀ base:Heap,(K w.params).In base->base.Ns mainGlobals mg->(∀ p∈[Pt],base.BuiltinsAt mg p)->FnOk l.prog w (K w.params) mg base CX0 9 e fd ["_law_script"] (zkf (K w.params) Pt)) :
  PySem.W.WalkO q loose v i l.row.toRowW d [] (λf vs=>PySem.call f vs) :=
 L2.zj6 (n:=63) (k:=9) (x:="_law_script") (CX:=CX0) (sp:=λK=>zkf K Pt) [Pt] hn (by decide) g ⟨rfl,by decide,by decide,rfl⟩ r (λw mg e h a b c=>⟨λp m=>Jd.mp m ▸ (F w mg e h a b c).1,(F w mg e h a b c).2⟩) (λ_ _ a ns o t j=>⟨a,ns,rfl,t,o,j Pt (.head _),λ_=>rfl⟩) λ_ _ _ _ z=>z
end K64
theorem PySem.W.Fast.tw285768781136836585:True:=trivial
theorem PySem.W.Fast.tw3360420727791156948:True:=trivial
theorem PySem.W.Fast.tw4831438232503253448:True:=trivial
theorem PySem.W.Fast.tw4605657503045111108:True:=trivial
theorem PySem.W.Fast.tw8848148395652788845:True:=trivial
theorem PySem.W.Fast.tw2449435025611219554:True:=trivial
theorem PySem.W.Fast.tw3472740111014091167:True:=trivial
theorem PySem.W.Fast.tw9351321349863574504:True:=trivial
theorem PySem.W.Fast.tw8748212103770515712:True:=trivial
theorem PySem.W.Fast.tw9787585128687410195:True:=trivial
theorem PySem.W.Fast.tw15240083795687201066:True:=trivial
theorem PySem.W.Fast.tw1627286634578590637:True:=trivial
theorem PySem.W.Fast.tw9815803912984116157:True:=trivial
theorem PySem.W.Fast.tw9867952295180265312:True:=trivial
theorem PySem.W.Fast.tw12457652279887813327:True:=trivial
theorem PySem.W.Fast.tw9419834196741991744:True:=trivial
theorem PySem.W.Fast.tw6845915212553416524:True:=trivial
theorem PySem.W.Fast.tw6030612892188298762:True:=trivial
theorem PySem.W.Fast.tw2102834254767611287:True:=trivial
theorem PySem.W.Fast.tw12791808320028009471:True:=trivial
theorem PySem.W.Fast.tw1388150783575504953:True:=trivial
theorem PySem.W.Fast.tw9293174475654249652:True:=trivial
theorem PySem.W.Fast.tw17672637028336528116:True:=trivial
theorem PySem.W.Fast.tw9791338902840294477:True:=trivial
theorem PySem.W.Fast.tw15519969309542323266:True:=trivial
theorem PySem.W.Fast.tw14500917381338148719:True:=trivial
theorem PySem.W.Fast.tw682431863275913046:True:=trivial
theorem PySem.W.Fast.tw14123793799749767819:True:=trivial
theorem PySem.W.Fast.tw13365877018774052240:True:=trivial
theorem PySem.W.Fast.tw6085020671109427768:True:=trivial
theorem PySem.W.Fast.tw17564282266978365339:True:=trivial
theorem PySem.W.Fast.tw2267315650728266815:True:=trivial
theorem PySem.W.Fast.tw16859678476425747398:True:=trivial
theorem PySem.W.Fast.tw3707018330352152165:True:=trivial
theorem PySem.W.Fast.tw1222002627750949288:True:=trivial
theorem PySem.W.Fast.tw10210588357295141738:True:=trivial
theorem PySem.W.Fast.tw18278546701516885004:True:=trivial
open PySem PySem.W PyProof.Rows
set_option maxRecDepth 100000 in
set_option maxHeartbeats 0 in
theorem PySem.Challenge.cw_stairlanes_k64_least_pairs_that_break_holds : PySem.Challenge.rw_stairlanes_k64_least_pairs_that_break.Holds := by
 w_on;o_law;k_head;(case hw=>w_witness2)
 k_fill
 refine K64.walk (l:=PySem.Challenge.rw_stairlanes_k64_least_pairs_that_break) rfl rfl (fun w h Y=>⟨PySem.W.km_in_of Y,PySem.W.km_tabs_of Y⟩) ?F
 case F =>
  intro w mg fa h KX G hmg
  refine' K64.zn6 KX G hmg (K64.zaL ?a1 ?l1 ?c1 ?k1) (K64.zaL ?a2 ?l2 ?c2 ?k2) (K64.zaL ?a3 ?l3 ?c3 ?k3) (K64.zaL ?a4 ?l4 ?c4 ?k4) (K64.zaL ?a5 ?l5 ?c5 ?k5) (K64.zaL ?a6 ?l6 ?c6 ?k6) (K64.zaL ?a7 ?l7 ?c7 ?k7) (K64.zaL ?a8 ?l8 ?c8 ?k8) (K64.zaL ?a9 ?l9 ?c9 ?k9) (K64.zaL ?a10 ?l10 ?c10 ?k10) (K64.zaL ?a11 ?l11 ?c11 ?k11) (K64.zaL ?a12 ?l12 ?c12 ?k12) (K64.zaL ?a13 ?l13 ?c13 ?k13) (K64.zaL ?a14 ?l14 ?c14 ?k14) (K64.zaL ?a15 ?l15 ?c15 ?k15) (K64.zaL ?a16 ?l16 ?c16 ?k16) (K64.zaL ?a17 ?l17 ?c17 ?k17) (K64.zaL ?a18 ?l18 ?c18 ?k18) (K64.zaL ?a19 ?l19 ?c19 ?k19) (K64.zaL ?a20 ?l20 ?c20 ?k20) (K64.zaL ?a21 ?l21 ?c21 ?k21) (K64.zaL ?a22 ?l22 ?c22 ?k22) (K64.zaL ?a23 ?l23 ?c23 ?k23) (K64.zaL ?a24 ?l24 ?c24 ?k24) (K64.zaL ?a25 ?l25 ?c25 ?k25) (K64.zaL ?a26 ?l26 ?c26 ?k26) (K64.zaL ?a27 ?l27 ?c27 ?k27) (K64.zaL ?a28 ?l28 ?c28 ?k28) (K64.zaL ?a29 ?l29 ?c29 ?k29) (K64.zaL ?a30 ?l30 ?c30 ?k30) (K64.zaL ?a31 ?l31 ?c31 ?k31) (K64.zaL ?a32 ?l32 ?c32 ?k32) (K64.zaL ?a33 ?l33 ?c33 ?k33) (K64.zaL ?a34 ?l34 ?c34 ?k34) (K64.zn1 ?a35 ?l35 ?c35 ?k35) (K64.zaL ?a36 ?l36 ?c36 ?k36) (K64.zaL ?a37 ?l37 ?c37 ?k37) (K64.zaL ?a38 ?l38 ?c38 ?k38) ?z1 ?z2 ?z3 ?z4 ?z5 ?z6 ?z7 ?z8 ?z9 ?z10 ?z11 ?z12 ?z13 ?z14 ?z15 ?z16 ?zHv ?lHv (K64.zjO ?lH2 ?eH2) ?nB4 ?kP ?zd
  (case a1=>k_is);(case l1=>k_is);(case c1=>k_is);(case k1=>k_is)
  (case a2=>k_is);(case l2=>k_is);(case c2=>k_is);(case k2=>k_is)
  (case a3=>k_is);(case l3=>k_is);(case c3=>k_is);(case k3=>k_is)
  (case a4=>k_is);(case l4=>k_is);(case c4=>k_is);(case k4=>k_is)
  (case a5=>k_is);(case l5=>k_is);(case c5=>k_is);(case k5=>k_is)
  (case a6=>k_is);(case l6=>k_is);(case c6=>k_is);(case k6=>k_is)
  (case a7=>k_is);(case l7=>k_is);(case c7=>k_is);(case k7=>k_is)
  (case a8=>k_is);(case l8=>k_is);(case c8=>k_is);(case k8=>k_is)
  (case a9=>k_is);(case l9=>k_is);(case c9=>k_is);(case k9=>k_is)
  (case a10=>k_is);(case l10=>k_is);(case c10=>k_is);(case k10=>k_is)
  (case a11=>k_is);(case l11=>k_is);(case c11=>k_is);(case k11=>k_is)
  (case a12=>k_is);(case l12=>k_is);(case c12=>k_is);(case k12=>k_is)
  (case a13=>k_is);(case l13=>k_is);(case c13=>k_is);(case k13=>k_is)
  (case a14=>k_is);(case l14=>k_is);(case c14=>k_is);(case k14=>k_is)
  (case a15=>k_is);(case l15=>k_is);(case c15=>k_is);(case k15=>k_is)
  (case a16=>k_is);(case l16=>k_is);(case c16=>k_is);(case k16=>k_is)
  (case a17=>k_is);(case l17=>k_is);(case c17=>k_is);(case k17=>k_is)
  (case a18=>k_is);(case l18=>k_is);(case c18=>k_is);(case k18=>k_is)
  (case a19=>k_is);(case l19=>k_is);(case c19=>k_is);(case k19=>k_is)
  (case a20=>k_is);(case l20=>k_is);(case c20=>k_is);(case k20=>k_is)
  (case a21=>k_is);(case l21=>k_is);(case c21=>k_is);(case k21=>k_is)
  (case a22=>k_is);(case l22=>k_is);(case c22=>k_is);(case k22=>k_is)
  (case a23=>k_is);(case l23=>k_is);(case c23=>k_is);(case k23=>k_is)
  (case a24=>k_is);(case l24=>k_is);(case c24=>k_is);(case k24=>k_is)
  (case a25=>k_is);(case l25=>k_is);(case c25=>k_is);(case k25=>k_is)
  (case a26=>k_is);(case l26=>k_is);(case c26=>k_is);(case k26=>k_is)
  (case a27=>k_is);(case l27=>k_is);(case c27=>k_is);(case k27=>k_is)
  (case a28=>k_is);(case l28=>k_is);(case c28=>k_is);(case k28=>k_is)
  (case a29=>k_is);(case l29=>k_is);(case c29=>k_is);(case k29=>k_is)
  (case a30=>k_is);(case l30=>k_is);(case c30=>k_is);(case k30=>k_is)
  (case a31=>k_is);(case l31=>k_is);(case c31=>k_is);(case k31=>k_is)
  (case a32=>k_is);(case l32=>k_is);(case c32=>k_is);(case k32=>k_is)
  (case a33=>k_is);(case l33=>k_is);(case c33=>k_is);(case k33=>k_is)
  (case a34=>k_is);(case l34=>k_is);(case c34=>k_is);(case k34=>k_is)
  (case a35=>k_is);(case l35=>k_is);(case c35=>k_is);(case k35=>k_is)
  (case a36=>k_is);(case l36=>k_is);(case c36=>k_is);(case k36=>k_is)
  (case a37=>k_is);(case l37=>k_is);(case c37=>k_is);(case k37=>k_is)
  (case a38=>k_is);(case l38=>k_is);(case c38=>k_is);(case k38=>k_is)
  (case z1=>k_is)
  (case z2=>k_is)
  (case z3=>k_is)
  (case z4=>k_is)
  (case z5=>k_is)
  (case z6=>k_is)
  (case z7=>k_is)
  (case z8=>k_is)
  (case z9=>k_is)
  (case z10=>k_is)
  (case z11=>k_is)
  (case z12=>k_is)
  (case z13=>k_is)
  (case z14=>k_is)
  (case z15=>k_is)
  (case z16=>k_is)
  (case zHv=>k_is);(case lHv=>k_is)
  (case lH2=>k_is);(case eH2=>rfl);(case nB4=>decide);(case kP=>rfl)
  (case zd=>k_is)
