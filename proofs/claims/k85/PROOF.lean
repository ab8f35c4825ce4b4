import PyProof.Rows.All
import Wide.All
import OpenK.AllK
import Wide.FinOn
import Lean
import PyProof.EqAt
import PyProof.EqKinds
import PyProof.TupleCall
import PySem.Challenge.RW_stormpost_k85_whole_letters_through_cell
set_option genSizeOf false
set_option compiler.extract_closed false
set_option Elab.async false
set_option linter.all false
set_option maxRecDepth 100000
set_option maxHeartbeats 0
def aJ:=@List.length_map
def aG:=@PySem.wpAny_bind
def bG:=@PySem.Heap.get?_push_of_some
def aS:=@PySem.wpAny_pure
def ae:=@Nat.le_refl
def bD:=@List.map_append
def bX:=@List.mem_singleton
def ao:=@List.mem_map
def bp:=@List.mem_cons_self
def bh:=@List.getElem?_map
def bq:=@List.getElem?_eq_some_iff
def bL:=@List.mem_of_getElem?
def bK:=@PySem.Heap.get?_push_size
def bU:=@List.mem_cons_of_mem
def bE:=@List.not_mem_nil
def au:=@List.mem_cons
def cT:=@List.getElem?_eq_getElem
def bV:=@List.length_append
def bo:=@List.size_toArray
def bR:=@Option.some.inj
def cG:=@Bool.false_ne_true
def bB:=@List.map_map
def bC:=@PySem.Heap.lt_size
def aK:=@if_neg
def aL:=@if_pos
def cH:=@List.mem_append
def cQ:=@List.length_cons
def bw:=@decide_eq_true
def cL:=@decide_eq_false
def bz:=@List.map_cons
def cc:=@List.length_take
def eU:=@List.getElem_of_mem
def gk:=@Option.map_eq_some_iff
def dh:=@Int.toNat_natCast
def fq:=@Array.length_toList
def fS:=@Nat.lt_of_lt_of_le
def bt:=@Nat.zero_le
def az:=@congrArg
def eV:=@List.take_length
def kU:=@Classical.byContradiction
def gQ:=@Int.emod_lt_of_pos
def lr:=@List.getD_eq_getElem?_getD
def jG:=@List.getElem?_eq_none
def cg:=@Nat.ne_of_lt
def iY:=@List.map_congr_left
def gm:=@List.pairwise_map
def gn:=@Int.emod_nonneg
def ls:=@List.mem_append_right
def jH:=@List.append_assoc
def iZ:=@List.lookup_cons
def jI:=@PySem.wpAny_newObj_type
def oa:=@PySem.F.plainAttrs_list
def eW:=@Int.pow_succ
def jJ:=@List.getElem_mem
def ia:=@List.find?_cons
def gR:=@Nat.lt_irrefl
def kW:=@PySem.wpAny_setField_rec
def bS:=@Ne.symm
def jK:=@List.cons.injEq
def jo:=@PySem.wpAny_call_entry
def gp:=@PySem.wpAny_holding
def gT:=@Nat.le_of_lt
def rS:=@Nat.lt_of_succ_lt_succ
def ib:=@PySem.Heap.size_push
def ic:=@List.nodup_cons
def jq:=@Bool.eq_iff_iff
def xq:=@PyProof.Rows.callWith_type1
def jL:=@List.mem_range
def lu:=@PySem.wpAny_truthy_bool
def iA:=@Nat.le_trans
def gU:=@Int.dvd_sub
def xr:=@PySem.F.type_list_append
def xt:=@PySem.F.slot_list_append
def rT:=@List.length_reverse
def oM:=@List.getElem_inj
def rV:=@PySem.Heap.SameBut.update
def zR:=@Array.getElem?_eq_some_iff
def xu:=@PySem.wpAny_callSpecial?_slot
def zS:=@List.pairwise_iff_getElem
def zT:=@List.mem_of_find?_eq_some
def og:=@List.all_eq_true
def um:=@PySem.Around.under_plainId
def gW:=@PySem.wpAny_mono
def l7:=@PySem.wpAny_seqItems
def oN:=@PySem.codeAny_builtin
def rW:=@Nat.lt_succ_of_lt
def rX:=@PySem.wpAny_setState_of
def uo:=@decide_eq_true_iff
def uq:=@List.pairwise_cons
def ur:=@Bool.false_eq_true
def xv:=@PySem.Heap.get?_update_self
def zU:=@decide_eq_false_iff_not
def Cj:=@Array.getD_eq_getD_getElem?
def rY:=@List.any_eq_true
def jM:=@PySem.sizeLine_eq
def oh:=@PySem.PassesOwn.never
def zV:=@List.take_of_length_le
def jr:=@List.not_lt
def uu:=@Option.isSome_map
def uv:=@List.nodup_append
def mW:=@List.ext_getElem?
def i5:=@List.cons.inj
def wO:=@List.getElem?_append_left
def wQ:=@List.drop_eq_getElem_cons
def tI:=@PySem.Heap.get?_update_other
def gO:=@PySem.wpAny_field
def cm:=@if_false
def gq:=@Nat.le_succ
def mX:=@List.length_drop
def ky:=@PySem.wpAny_ite_split
def tJ:=@List.mem_append_left
def jt:=@Int.dvd_trans
def oj:=@PySem.wpAny_Call_Name_kw
def fU:=@beq_iff_eq
def mY:=@Nat.not_lt_zero
def tK:=@beq_eq_false_iff_ne
def tL:=@PySem.mem_of_lookup
def dJ:=@or_false
def zW:=@PySem.F.slot_dict_keyiterator_next
def zX:=@List.getElem?_append_right
def om:=@Nat.lt_succ_self
def oo:=@List.ext_getElem
def ju:=@Nat.ne_of_gt
def k9:=@List.map_drop
def mZ:=@PySem.wpAny_specialOf
def jv:=@PySem.codeAny_mono
def lA:=@PySem.plainId_quiet
def oq:=@List.find?_some
def tM:=@of_decide_eq_true
def tN:=@decide_eq_true_eq
def tO:=@PySem.SeqAt.EqAt.of_refs
def tP:=@PySem.SeqAt.EqAt.int_int
def lB:=@Int.mul_emod
def ma:=@List.map_take
def iD:=@PySem.wpAny_rule
def tQ:=@PySem.wpAny_pyIter_list
def tR:=@Int.dvd_mul_left
def tS:=@Bool.and_eq_true
def fV:=@and_true
def wR:=@List.find?_eq_none
def md:=@PySem.Paired.length
def lC:=@Int.le_refl
def tT:=@List.append_nil
def zY:=@List.getElem?_toArray
def DQ:=@PySem.wpAny_typeNameOfWhole_keyiter
def wU:=@List.length_range
def DR:=@Array.perm_iff_toList_perm
def zZ:=@List.mem_of_mem_take
def tU:=@PySem.wpAny_passesOwn
def tV:=@PySem.SeqAt.EqAt.same
def zc:=@PySem.builtinLookup_eq_fast
def i6:=@PyProof.Rows.boot_tuple
def wV:=@PySem.SeqAt.RcAt.tuples
def ze:=@List.replicate_succ
def zh:=@List.filterMap_cons
def DS:=@List.Perm.eq_of_pairwise
def DT:=@PySem.F.slot_tuple_iterator_next
def wW:=@Nat.min_eq_left
def tW:=@List.mem_filter
def wY:=@List.forIn_cons
def wZ:=@List.foldl_cons
def DU:=@PySem.F.plain_list_iadd
def DV:=@Int.eq_ofNat_of_zero_le
def wc:=@PySem.wpAny_isInstance
def DW:=@PySem.wpAny_typeNameOf_keyiter
def DX:=@PySem.F.plainAttrs_str
def DY:=@List.drop_of_length_le
def zj:=@Nat.lt_trichotomy
def JW:=@PyProof.Rows.slot_tuple_getitem
def we:=@List.forIn_nil
def zk:=@PySem.Calls.spliced_cons
def DZ:=@Array.getElem?_toList
def i7:=@PyProof.Rows.boot_list
def me:=@PyProof.Rows.boot_sorted
def Dc:=@List.Pairwise.filter
def Dd:=@Int.emod_emod_of_dvd
def mf:=@PySem.call_meets
def wg:=@PySem.isSubtype_type
def iE:=@if_true
def tX:=@PySem.wpAny_typeOf
def tY:=@Prod.mk.inj
def De:=@List.map_eq_nil_iff
def Df:=@Int.toNat_of_nonneg
def aAi:=@List.perm_ext_iff_of_nodup
def Dg:=@List.mem_filterMap
def Dh:=@List.filter_append
def Di:=@PySem.F.slot_NoneType_hash
def zm:=@List.take_zero
def zp:=@List.nodup_nil
def zq:=@PySem.wpAny_updateSeq
def zr:=@PySem.wpAny_execs_nil
def zt:=@PySem.typeLookup_type
def zu:=@PySem.F.slot_zip_next
def Dj:=@List.flatten_cons
def Dk:=@List.flatMap_cons
def Dl:=@Int.dvd_mul_right
def aAj:=@PySem.F.type_list_extend
def aAk:=@PySem.F.slot_list_extend
def aAl:=@List.length_filterMap_le
def aAm:=@List.length_erase_of_mem
def aAn:=@List.getElem?_take_of_lt
def wj:=@Int.pow_mul
def wm:=@Int.dvd_add
def zw:=@Nat.add_assoc
def zx:=@List.lt_asymm
def zy:=@List.any_cons
def z7:=@PySem.W.KasT.kasWp_bind
def aAo:=@PySem.EqBoolInt.of_rcne
def Je:=@List.length_eq_zero_iff
def Dm:=@PySem.wpAny_pyIter_tuple
def Dn:=@PySem.tupleKind_room_in1
def Dp:=@PySem.Obj.data_mapFields
def Dq:=@Nat.zero_lt_succ
def Dr:=@Nat.succ_lt_succ
def Ds:=@Nat.min_eq_right
def Dt:=@List.getElem_map
def Du:=@List.cons_append
def Dw:=@Int.sub_sub_self
def z9:=@PySem.wpAny_runValue
def aAp:=@Nat.le_of_succ_le_succ
def Jg:=@List.pairwise_lt_range
def Jh:=@List.getElem_cons_drop
def Ji:=@List.getElem?_set_self
def AA:=@Nat.le_of_eq
def AB:=@Nat.add_comm
def Dx:=@PySem.wpAny_pyIter_slot
def Dy:=@List.range_succ
def Dz:=@List.nil_append
def D0:=@Int.natCast_mul
def D1:=@PySem.F.slot_tuple_hash
def D6:=@PySem.Calls.spliced_nil
def Jj:=@List.take_append_drop
def Jk:=@List.length_singleton
def Jl:=@List.length_replicate
def Jm:=@List.getElem?_reverse
def Jn:=@List.filterMap_append
def Jo:=@List.cons_lt_cons_iff
def Jp:=@PySem.F.slot_list_getattribute
def AD:=@PySem.wpAny_onRaise
def AE:=@PySem.wpAny_attempt
def Jq:=@List.mem_of_mem_drop
def Jr:=@List.getElem?_set_ne
def Js:=@List.getElem?_of_mem
def D7:=@PySem.wpAny_pyHash_int
def AF:=@List.map_id
def Jt:=@PySem.W.plainGet_of
def Ju:=@List.flatMap_append
def Ov:=@PySem.wpAny_callSpecialIfBoundUnlessNone?_slot
def D8:=@PySem.pushCells_keeps
def D9:=@PySem.W.mg_of
def EA:=@List.sum_cons
def Jv:=@Nat.lt_or_eq_of_le
def wo:=@PySem.wpAny_load
def AG:=@Nat.not_lt
def Jw:=@PySem.wpAny_updateSeq_pair
def Jx:=@PySem.codeAny_extend_loopS
def Jy:=@Option.some.injEq
def Jz:=@Bool.eq_false_iff
def EB:=@PySem.wpAny_setField
def EC:=@PySem.wpAny_newTuple
def ED:=@List.map_nil
def EE:=@List.any_map
def EF:=@Int.pow_zero
def EG:=@Int.emod_def
def EH:=@Int.dvd_zero
def EI:=@Int.dvd_refl
def J0:=@PyProof.Rows.F.plain_set_update_loop
abbrev Ni:=PySem.W.Frag
abbrev JX:=PySem.Shared
abbrev JY:=PySem.Addr
abbrev JZ:=PySem.Value
abbrev Ja:=PySem.Program
abbrev Jb:=PySem.World
abbrev Jc:=PySem.FuncData
abbrev Jd:=PySem.Around
namespace L2
open PySem PySem.Spec PyProof.Rows
abbrev AH:Obj:={cls:=.type "list",dict:=none,data:=.seq ([]:List JZ).toArray}
abbrev ox:Obj:={cls:=.type "dict",data:=.dict #[]}
abbrev ä:=Sum Int Str
def Ck:ä->JZ->Bool
 |.inl k,v=>Value.isInt k v
 |.inr x,v=>Value.isStrOf x v
def aBd(w:Jb):ä->Int
 |.inl k=>hashInt k
 |.inr x=>hashStr w x
def cV:∀{k:ä}{v:JZ},Ck k v=true->(∃i t,k=Sum.inl i/\v=Value.int i t)\/(∃x t,k=Sum.inr x/\v=Value.str x t)
 |.inl i,v,h=>by obtain⟨t,e⟩:=Value.isInt_shape (k:=i) (v:=v) h;exact .inl ⟨i,t,rfl,e⟩
 |.inr x,v,h=>by obtain⟨t,e⟩:=Value.isStrOf_shape (x:=x) (v:=v) h;exact .inr ⟨x,t,rfl,e⟩
def NI(i:Int)(t:Tok):Ck (.inl i) (.int i t)=true:=by simp[Ck,Value.isInt]
def NJ(x:Str)(t:Tok):Ck (.inr x) (.str x t)=true:=by simp[Ck,Value.isStrOf]
def VX(a b:Int):decide ((Sum.inl a:ä)=Sum.inl b)=(a==b):=by
 by_cases e:a=b
 .subst e;simp
 have h:¬(Sum.inl a:ä)=Sum.inl b:=λq=>e (Sum.inl.inj q);rw[cL h];exact(tK.mpr e).symm
def VY(a b:Str):decide ((Sum.inr a:ä)=Sum.inr b)=decide (a=b):=by
 by_cases e:a=b
 .subst e;simp
 have h:¬(Sum.inr a:ä)=Sum.inr b:=λq=>e (Sum.inr.inj q);rw[cL h,cL e]
def VZ(a:Int)(b:Str):decide ((Sum.inl a:ä)=Sum.inr b)=false:=cL (λq=>nomatch q)
def Va(a:Str)(b:Int):decide ((Sum.inr a:ä)=Sum.inl b)=false:=cL (λq=>nomatch q)
def aw(prog:Ja)(w:Jb):PySem.KeyKind prog w ä where
 is:=Ck
 hash:=aBd w
 inj:=λv a b ha hb=>by
  rcases cV ha with⟨i,t,rfl,rfl⟩|⟨x,t,rfl,rfl⟩
  .rcases cV hb with⟨j,u,rfl,e⟩|⟨y,u,rfl,e⟩
   .injection e with e1 _;rw[e1]
   exact nomatch e
  rcases cV hb with⟨j,u,rfl,e⟩|⟨y,u,rfl,e⟩
  .exact nomatch e
  injection e with e1 _;rw[e1]
 byValue:=λk v h=>by rcases cV h with⟨i,t,rfl,rfl⟩|⟨x,t,rfl,rfl⟩<;>rfl
 pyHash:=λhv h=>by
  rcases cV hv with⟨i,t,rfl,rfl⟩|⟨x,t,rfl,rfl⟩
  .exact D7 h
  exact wpAny_pyHash_str h
 eqBool:=λhu hv h=>by
  rcases cV hu with⟨i,t,rfl,rfl⟩|⟨x,t,rfl,rfl⟩
  .rcases cV hv with⟨j,u,rfl,rfl⟩|⟨y,u,rfl,rfl⟩
   .rw[VX]at h;exact wpAny_eqBool_int h
   rw[VZ]at h;exact SeqAt.EqAt.int_str i t y u _ _ _ _ h
  rcases cV hv with⟨j,u,rfl,rfl⟩|⟨y,u,rfl,rfl⟩
  .rw[Va]at h;exact SeqAt.EqAt.str_int x t j u _ _ _ _ h
  rw[VY]at h;exact wpAny_eqBool_str h
 «strs»:=λk x t v h=>by
  rcases cV h with⟨i,u,rfl,e⟩|⟨y,u,rfl,e⟩
  .exact nomatch e
  injection e with e1 _;subst e1;cases v<;>rfl
def xw(prog:Ja)(w:Jb)(i:Int)(t:Tok):(aw prog w).is (.inl i) (.int i t)=true:=NI i t
def xx(prog:Ja)(w:Jb)(x:Str)(t:Tok):(aw prog w).is (.inr x) (.str x t)=true:=NJ x t
inductive V where
 |cX|bl (b:Bool)|int (i:Int)|str (x:Str)|L9 (b:Array UInt8)|flt (b:UInt64)|ref (a:JY)|ty (n:String)
 deriving DecidableEq
def æ:V->JZ->Prop
 |.cX,u=>u=Value.none
 |.bl b,u=>u=Value.bool b
 |.int i,u=>∃t,u=Value.int i t
 |.str x,u=>∃t,u=Value.str x t
 |.L9 b,u=>∃t,u=Value.bytes b t
 |.flt b,u=>∃t,u=Value.float b t
 |.ref a,u=>u=Value.ref a
 |.ty n,u=>u=Value.type n
abbrev aq:List V->List JZ->Prop:=Paired æ
def aq.length{xs:List V}{us:List JZ}(r:aq xs us):xs.length=us.length:=md r
def aq.get:∀{xs:List V}{us:List JZ}{i:Nat}{x:V},aq xs us->xs[i]?=some x->∃u,us[i]?=some u/\æ x u
 |_,_,_,_,.nil,e=>by simp at e
 |_,_,0,_,.cons r _,e=>by simp at e;subst e;exact⟨_,rfl,r⟩
 |_,_,i+1,x,.cons _ t,e=>by obtain⟨u,h1,h2⟩:=aq.get (i:=i) (x:=x) t (by simpa using e);exact⟨u,by simpa using h1,h2⟩
def aq.set{x:V}{u:JZ}(r:æ x u):∀{xs:List V}{us:List JZ}(i:Nat),aq xs us->aq (xs.set i x) (us.set i u)
 |_,_,_,.nil=>.nil
 |_,_,0,.cons _ t=>.cons r t
 |_,_,i+1,.cons q t=>.cons q (aq.set r i t)
def aq.append:∀{xs ys:List V}{us ws:List JZ},aq xs us->aq ys ws->aq (xs++ys) (us++ws)
 |_,_,_,_,.nil,s=>s
 |_,_,_,_,.cons r t,s=>.cons r (aq.append t s)
def aq.take:∀{xs:List V}{us:List JZ}(n:Nat),aq xs us->aq (xs.take n) (us.take n)
 |_,_,0,_=>.nil
 |_,_,_+1,.nil=>.nil
 |_,_,n+1,.cons r t=>.cons r (aq.take n t)
def aq.drop:∀{xs:List V}{us:List JZ}(n:Nat),aq xs us->aq (xs.drop n) (us.drop n)
 |_,_,0,r=>r
 |_,_,_+1,.nil=>.nil
 |_,_,n+1,.cons _ t=>aq.drop n t
def l8:Option V->Option JZ->Prop
 |some v,some u=>æ v u
 |none,none=>True
 |_,_=>False
def KV{κ:Type}:List (κ×V)->List (κ×JZ)->Prop:=Paired λ(p:κ×V)(q:κ×JZ)=>p.1=q.1/\æ p.2 q.2
def kV:ä->V
 |.inl i=>.int i
 |.inr x=>.str x
inductive HO where
 |lst (xs:List V)
 |tup (xs:List V)
 |dK (jp:List (ä×V))|dT (jp:List (List ä×V))
 |set (S:Int->Bool) (n:Nat)
 |ins (C dx:JY) (fs:List (Str×V))
 |own (x:JY)
 |xd (fs:List (Str×V))
 |met (f x:JY)
 |rng (lo hi:Int)
 |Rj (o:Obj) (u:HO)
 |Vb (ps:Array JZ)
 |ext (φ:Heap->Prop)
abbrev Hp:=JY->Option HO
def ü(H:Hp)(a:JY)(o:HO):Hp:=λb=>if b=a then some o else H b
def aB{H:Hp}{a:JY}{o:HO}:ü H a o a=some o:=by unfold ü;rw[aL rfl]
def aN{H:Hp}{a b:JY}{o:HO}(h:b≠a):ü H a o b=H b:=by unfold ü;rw[aK h]
def xy{H:Hp}{a b:JY}{o u:HO}(h:H a=some o)(h':H b=some u)(d:o≠u):a≠b:=by intro e;subst e;rw[h]at h';exact d (bR h')
def aP{H:Hp}{a b:JY}{o:HO}(h:H a=some o)(h':H b=none):a≠b:=by intro e;subst e;rw[h]at h';cases h'
section
variable(P:Ja)(w:Jb)
def cY(H:Hp)(h:Heap)(a:JY):HO->Prop
 |.lst xs=>xs.length<=sizeLine/\∃(aa:List JZ)(n:Nat),aq xs aa/\h.get? a=some {cls:=.type "list",data:=.seq aa.toArray n}
 |.tup xs=>xs.length<=sizeLine/\∃aa:List JZ,aq xs aa/\IsTup h a aa.toArray
 |.dK jp=>jp.length<=sizeLine/\(a==sysModules)=false/\∃vs,KV jp vs/\h.DictOf (aw P w) a vs
 |.dT jp=>jp.length<=sizeLine/\(a==sysModules)=false/\∃xs:List (List ä×JY×JZ),
   Paired (λ(p:List ä×V)(q:List ä×JY×JZ)=>p.1=q.1/\H q.2.1=some (.tup (p.1.map kV))/\æ p.2 q.2.2) jp xs /\
   ∃o es ep,h.get? a=some o/\o.ExactDict/\o.data=.dict es ep/\es.toList=xs.map (entryOfKey (tupleKind (aw P w)))/\(xs.map (·.1)).Nodup
 |.set S n=>h.SetOf (intKind P w) a S n
 |.ins C dx fs=>H dx=some (.own a)/\fs.length<=1000/\dx≠a/\h.get? a=some (W.instObj C dx) /\
   ∃mA,h.Ns1 dx mA/\(∀f,l8 (fs.lookup f) (mA f))/\PySem.Within mA (fs.map (·.1))
 |.own _=>∃o,h.get? a=some o
 |.xd fs=>∃mA,h.Ns1 a mA/\∀f,l8 (fs.lookup f) (mA f)
 |.rng lo hi=>∃t u v,h.get? a=some {cls:=.type "range",data:=.fields #[.int lo t,.int hi u,.int 1 v]}
 |.Rj o u=>h.get? a=some o/\cY H h a u
 |.Vb ps=>h.get? a=some {cls:=.none,data:=.fields ps}
 |.met f x=>h.get? a=some (W.methodObj (.ref f) (.ref x))
 |.ext φ=>φ h/\(∃o,h.get? a=some o)/\∀h1 h2:Heap,φ h1->(∀o,h1.get? a=some o->h2.get? a=some o)->φ h2
def tZ(H:Hp)(h:Heap):Prop:=∀a o,H a=some o->cY P w H h a o
end
section
variable{P:Ja}{w:Jb}{H H':Hp}{h h':Heap}{a:JY}{o:HO}
def cY.lt(x:cY P w H h a o):a<h.objs.size:=by
 cases o with
 |lst xs=>obtain⟨_,_,_,_,e⟩:=x;exact bC e
 |tup xs=>obtain⟨_,_,_,p⟩:=x;exact p.lt
 |dK jp=>obtain⟨_,_,_,_,o,_,_,e,_⟩:=x;exact bC e
 |dT jp=>obtain⟨_,_,_,_,o,_,_,e,_⟩:=x;exact bC e
 |set S n=>obtain⟨o,_,_,_,e,_⟩:=x;exact bC e
 |ins C dx fs=>obtain⟨_,_,_,e,_⟩:=x;exact bC e
 |own y=>obtain⟨_,e⟩:=x;exact bC e
 |xd fs=>obtain⟨_,⟨_,_,_,e,_⟩,_⟩:=x;exact bC e
 |rng lo hi=>obtain⟨_,_,_,e⟩:=x;exact bC e
 |Rj ob u=>obtain⟨e,_⟩:=x;exact bC e
 |Vb ps=>exact bC (show h.get? a=some _ from x)
 |met f y=>exact bC (show h.get? a=some _ from x)
 |ext φ=>obtain⟨_,⟨_,e⟩,_⟩:=x;exact bC e
def Paired.Vc{α β:Type}{F G:α->β->Prop}:∀{l₁:List α}{l₂:List β},Paired F l₁ l₂->(∀a b,F a b->G a b)->Paired G l₁ l₂
 |_,_,.nil,_=>.nil
 |_,_,.cons r t,f=>.cons (f _ _ r) (Paired.Vc t f)
def cY.rF(x:cY P w H h a o)(k:∀b u,(b=a\/H b=some (.own a))->h.get? b=some u->h'.get? b=some u)(ho:∀b,H b=some (.own a)->H' b=some (.own a))(ht:∀b xs,H b=some (.tup xs)->H' b=some (.tup xs)):cY P w H' h' a o:=by
 induction o with
 |lst xs=>obtain⟨z,aa,n,r,e⟩:=x;exact⟨z,aa,n,r,k _ _ (.inl rfl) e⟩
 |tup xs=>obtain⟨z,aa,r,ob,e,c⟩:=x;exact⟨z,aa,r,ob,k _ _ (.inl rfl) e,c⟩
 |dK jp=>obtain⟨z,y,vs,r,ob,es,ep,e,c⟩:=x;exact⟨z,y,vs,r,ob,es,ep,k _ _ (.inl rfl) e,c⟩
 |dT jp =>
  obtain⟨z,y,xs,r,ob,es,ep,e,c⟩:=x;exact⟨z,y,xs,Paired.Vc r λp q z=>⟨z.1,ht _ _ z.2.1,z.2.2⟩,ob,es,ep,k _ _ (.inl rfl) e,c⟩
 |set S n=>obtain⟨ob,es,ep,t,e,c⟩:=x;exact⟨ob,es,ep,t,k _ _ (.inl rfl) e,c⟩
 |ins C dx fs =>
  obtain⟨d,z,ne,e,mA,⟨od,es,ep,e2,c⟩,r⟩:=x;exact⟨ho _ d,z,ne,k _ _ (.inl rfl) e,mA,⟨od,es,ep,k _ _ (.inr d) e2,c⟩,r⟩
 |own y=>obtain⟨ob,e⟩:=x;exact⟨ob,k _ _ (.inl rfl) e⟩
 |xd fs=>obtain⟨mA,⟨od,es,ep,e,c⟩,r⟩:=x;exact⟨mA,⟨od,es,ep,k _ _ (.inl rfl) e,c⟩,r⟩
 |rng lo hi=>obtain⟨t,u,v,e⟩:=x;exact⟨t,u,v,k _ _ (.inl rfl) e⟩
 |Rj ob u ih=>obtain⟨e,q⟩:=x;exact⟨k _ _ (.inl rfl) e,ih q⟩
 |Vb ps =>
  have e:h.get? a=some {cls:=.none,data:=.fields ps}:=x;show h'.get? a=some {cls:=.none,data:=.fields ps};exact k a _ (.inl rfl) e
 |met f y =>
  have e:h.get? a=some (W.methodObj (.ref f) (.ref y)):=x;show h'.get? a=some (W.methodObj (.ref f) (.ref y));exact k a _ (.inl rfl) e
 |ext φ=>obtain⟨p,⟨o,e⟩,st⟩:=x;exact⟨st _ _ p λo q=>k _ _ (.inl rfl) q,⟨o,k _ _ (.inl rfl) e⟩,st⟩
def tZ.lt(x:tZ P w H h)(e:H a=some o):a<h.objs.size:=(x a o e).lt
def tZ.fresh(x:tZ P w H h)(e:h.objs.size<=a):H a=none:=by
 cases q:H a with
 |none=>rfl
 |some u=>exact absurd (fS (x.lt q) e) (gR _)
def tZ.kept(x:tZ P w H h)(k:∀b u,h.get? b=some u->h'.get? b=some u):tZ P w H h':=λa o e =>
 (x a o e).rF (λb u _ q=>k b u q) (λ_ q=>q) λ_ _ q=>q
def tZ.laid(x:tZ P w H h)(k:∀b u,h.get? b=some u->h'.get? b=some u)(hp:h.objs.size<=a)(new:cY P w (ü H a o) h' a o):tZ P w (ü H a o) h':=λb u e=>by
 have hn:=x.fresh hp;by_cases hb:b=a
 .subst hb;rw[aB]at e;cases e;exact new
 rw[aN hb]at e;exact(x b u e).rF (λc v _ q=>k c v q) (λc q=>by rw[aN (aP q hn)];exact q) λc xs q=>by rw[aN (aP q hn)];exact q
end
def Rd(H:Hp)(a:JY)(u:HO):Prop:=H a=some u\/∃o,H a=some (.Rj o u)
def Rd.ok{P:Ja}{w:Jb}{H:Hp}{h:Heap}{a:JY}{u:HO}(r:Rd H a u)(x:tZ P w H h):cY P w H h a u:=by
 rcases r with r|⟨o,r⟩
 .exact x a u r
 obtain⟨_,q⟩:=x a _ r;exact q
def Xb:Option HO->Prop
 |some (.lst _)=>True
 |some (.dK _)=>True
 |some (.dT _)=>True
 |some (.set _ _)=>True
 |some (.ins _ _ _)=>True
 |some (.ext _)=>True
 |_=>False
section
variable{P:Ja}{w:Jb}{H:Hp}{h h':Heap}{x e:JY}{o':HO}
def tZ.write(ok:tZ P w H h)(mu:Xb (H x))(he:e=x\/H e=some (.own x))(k:∀b u,b≠e->h.get? b=some u->h'.get? b=some u)(Xc:∃u,h'.get? e=some u)(new:cY P w (ü H x o') h' x o'):tZ P w (ü H x o') h':=λb u q=>by
 have X0:∀c y,H c=some (.own y)->c≠x:=λc y r z=>by subst z;rw[r]at mu;exact mu
 have aBf:∀c xs,H c=some (.tup xs)->c≠x:=λc xs r z=>by subst z;rw[r]at mu;exact mu
 by_cases hb:b=x
 .subst hb;rw[aB]at q;cases q;exact new
 rw[aN hb]at q;by_cases Vd:b=e
 .have q':H b=some (.own x):=by
   rcases he with z|z
   .exact absurd (Vd.trans z) hb
   rw[Vd];exact z
  rw[q]at q';cases q';obtain⟨v,hv⟩:=Xc;exact⟨v,by rw[Vd];exact hv⟩
 refine(ok b u q).rF (λc v hc r=>k c v ?_ r) (λc r=>by rw[aN (X0 c b r)];exact r) λc xs r=>by rw[aN (aBf c xs r)];exact r
 rcases hc with rfl|hc
 .exact Vd
 rintro rfl;rcases he with z|z
 .exact X0 c b hc z
 rw[hc]at z;cases z;exact hb rfl
end
structure Un(fs ex:List JY)(H H':Hp)(h h':Heap):Prop where
 keep:∀b o,h.get? b=some o->H b=none->b∉fs->b∉ex->h'.get? b=some o
 slot:∀b o,h.get? b=some o->H b=none->b∈fs->b∉ex->∃sl,h'.get? b=some {o with slots:=sl}
 free:∀b o,h.get? b=some o->H b=none->b∉ex->H' b=none
 there:∀b o,h.get? b=some o->b∉ex->∃o',h'.get? b=some o'
 GU:∀b xs,H b=some (.tup xs)->H' b=some (.tup xs)
 EJ:∀b o u,H b=some (.Rj o u)->H' b=some (.Rj o u)
 GV:∀b ps,H b=some (.Vb ps)->∃more,H' b=some (.Vb (ps++more))
section
variable{fs fs' ex ex':List JY}{H H1 H2:Hp}{h h1 h2 h':Heap}{a x e:JY}{o:HO}
def Un.any(u:Un fs ex H H1 h h1){b:JY}{ob:Obj}(q:h.get? b=some ob)(n:H b=none)(hx:b∉ex):∃sl,h1.get? b=some {ob with slots:=sl}:=by
 by_cases hb:b∈fs
 .exact u.slot b ob q n hb hx
 exact⟨ob.slots,u.keep b ob q n hb hx⟩
def Un.kept(k:∀b u,h.get? b=some u->h'.get? b=some u):Un fs ex H H h h' :=
 ⟨λb ob q _ _ _=>k b ob q,λb ob q _ _ _=>⟨ob.slots,k b ob q⟩,λ_ _ _ n _=>n,λb ob q _=>⟨ob,k b ob q⟩,λ_ _ q=>q,λ_ _ _ q=>q,λ_ ps q=>⟨#[],by rw[q];simp⟩⟩
def Un.refl:Un fs ex H H h h:=Un.kept λ_ _ q=>q
def Un.laid(k:∀b u,h.get? b=some u->h'.get? b=some u)(hp:h.objs.size<=a)(hn:H a=none):Un fs ex H (ü H a o) h h' where
 keep:=λb u q _ _ _=>k b u q
 slot:=λb u q _ _ _=>⟨u.slots,k b u q⟩
 free:=λb u q n _=>by rw[aN (cg (fS (bC q) hp))];exact n
 there:=λb u q _=>⟨u,k b u q⟩
 GU:=λb xs q=>by rw[aN (aP q hn)];exact q
 EJ:=λb u xs q=>by rw[aN (aP q hn)];exact q
 GV:=λb ps q=>⟨#[],by rw[aN (aP q hn),q];simp⟩
def Un.write(mu:Xb (H x))(he:e=x\/H e=some (.own x))(k:∀b u,b≠e->h.get? b=some u->h'.get? b=some u)(Xc:∃u,h'.get? e=some u):Un fs ex H (ü H x o) h h':=by
 have hx:∀b,H b=none->b≠x:=λb n z=>by subst z;rw[n]at mu;exact mu
 have hb:∀b,H b=none->b≠e:=λb n z=>by
  subst z;rcases he with r|r
  .exact hx b n r
  rw[n]at r;cases r
 have hm:∀b u,H b=some u->¬Xb (some u)->b≠x:=λb u q nm z=>by subst z;rw[q]at mu;exact nm mu
 refine⟨λb u q n _ _=>k b u (hb b n) q,λb u q n _ _=>⟨u.slots,k b u (hb b n) q⟩,λb u q n _=>by rw[aN (hx b n)];exact n,λb u q _=>?_,
  λb xs q=>by rw[aN (hm b _ q λz=>z)];exact q,λb u xs q=>by rw[aN (hm b _ q λz=>z)];exact q,λb ps q=>⟨#[],by rw[aN (hm b _ q λz=>z),q];simp⟩⟩
 by_cases Vd:b=e
 .subst Vd;exact Xc
 exact⟨u,k b u Vd q⟩
end
def X1(h:Heap)(H:Hp):List JY:=(List.range h.objs.size).filter λa=>(H a).isSome
def EK(h:Heap)(H:Hp):Heap:=W.hideAll h (X1 h H)
def NK(h:Heap)(H:Hp):(EK h H).objs.size=h.objs.size:=W.hideAll_size _ _
def Ow{h:Heap}{H:Hp}{b:JY}{o:Obj}(e:h.get? b=some o)(n:H b=none):(EK h H).get? b=some o :=
 W.hideAll_get _ e λhm=>by have q:(H b).isSome=true:=(tW.mp hm).2;rw[n]at q;simp at q
def Rx{h:Heap}{H:Hp}{b:JY}{o:Obj}(e:(EK h H).get? b=some o):h.get? b=some o/\H b=none:=by
 have e':h.get? b=some o:=W.of_hideAll (X1 h H) e;refine⟨e',?_⟩;cases q:H b with
 |none=>rfl
 |some x =>
  have hm:b∈X1 h H:=tW.mpr ⟨jL.mpr (bC e'),by simp[q]⟩;have z:(EK h H).get? b=none:=W.hideAll_none (X1 h H) hm;rw[z]at e;cases e
structure Mod(K:Ni)(mg:Str->Option JZ)(à:Heap):Prop where
 Uj:K.In à
 glob:à.Ns mainGlobals mg
 blt:∃mb,à.Ns builtinsNs mb/\∀x:Str,x≠"__name__"->mb x=bootBuiltins x
 nolimit:à.NoLimit
structure Cx where
 prog:Ja
 w:Jb
 K:Ni
 mg:Str->Option JZ
 à:Heap
 A:Jd
 N:List Str
 s₀:JX
 H₀:Hp
 env:Env
 á:List Env
 stack:List Env
 ex:List JY
 fn:Str->Bool
 calm:Bool
 pn:List (JY×Obj)
 xe:JZ->JX->Prop
abbrev wX(X:Cx){α:Type}(c:Sem α):=wpAny (model X.prog X.w) X.A c
def NL(l:List Env):List JY:=l.filterMap (·.frame)
abbrev Cx.fs(X:Cx):List JY:=NL X.á
def X2(sc:Scope)(x:Str):Prop:=sc.names.lookup x=some .local\/sc.names.lookup x=some .cell\/sc.names.lookup x=some .free
def í(sc:Scope)(x:Str):Prop:=sc.names.lookup x=some .local\/sc.names.lookup x=some .cell
def Look(env:Env)(h:Heap)(m:Str->Option JZ)(x:Str)(u:JZ):Prop :=
 (env.kindOf x=some .local/\m x=some u)\/((env.kindOf x=some .cell\/env.kindOf x=some .free)/\∃c,env.cells.lookup x=some c/\h.IsCell c (some u))
structure Cx.Ok(X:Cx):Prop where
 mod:Mod X.K X.mg X.à
 kind:X.env.scope.kind=.function
 glob:X.env.globals=mainGlobals
 blt:X.env.builtins=builtinsNs
 above:X.s₀.heap.objs.size<=X.env.locals
 inj:∀x y c,X.env.cells.lookup x=some c->X.env.cells.lookup y=some c->x=y
 has:∀x,(X.env.kindOf x=some .cell\/X.env.kindOf x=some .free)->∃c,X.env.cells.lookup x=some c
 Ve:∀x c,X.fn x=true->X.env.cells.lookup x=some c->X.s₀.heap.objs.size<=c
 hd:X.calm=true->X.A.handled=none
 frames:X.A.frames=some X.stack
 stk:X.stack=X.á\/(X.stack=X.env::X.á/\X.env.frame=some X.env.locals)
 X3:∀b∈X.ex,b≠X.env.locals/\∀x c,X.env.cells.lookup x=some c->c≠b
 bs:∀b o,X.à.get? b=some o->X.s₀.heap.get? b=some o/\X.H₀ b=none
 Ry:X.à.objs.size<=X.s₀.heap.objs.size
 J1:∀b o,X.à.get? b=some o->b∉X.ex
 J2:∀b∈X.ex,b∉X.fs
 yZ:X.s₀.heap.FunFrames X.à X.á
 Vf:∀b∈X.fs,X.H₀ b=none
structure â(X:Cx)(bv:List (JY×Obj))(Z:List (Option V))(H:Hp)(s:JX):Prop where
 ok:X.Ok
 os:s.os=X.s₀.os
 bare:AllBare s.gens
 à:Un X.fs X.ex X.H₀ H X.s₀.heap s.heap
 loc:∃m,s.heap.Ns X.env.locals m/\∀(i:Nat)(x:Str)(v:V),X.N[i]?=some x->Z[i]?=some (some v)->X2 X.env.scope x->∃u,æ v u/\Look X.env s.heap m x u
 cell:∀x c,X.env.cells.lookup x=some c->∃v,s.heap.IsCell c v
 free:H X.env.locals=none
 oO:∀x c,X.env.cells.lookup x=some c->H c=none
 pin:∀p∈X.pn++bv,s.heap.get? p.1=some p.2/\H p.1=none/\p.1≠X.env.locals/\p.1∉X.fs/\∀v,p.2.data≠.cell v
 cI:tZ X.prog X.w H s.heap
 len:Z.length=X.N.length
section
variable{X:Cx}{bv:List (JY×Obj)}{Z:List (Option V)}{H H':Hp}{s:JX}{h':Heap}
def Cx.Ok.aBh(ok:X.Ok){b:JY}{o:Obj}(e:X.à.get? b=some o):b∉X.fs:=λhb=>by have:=(ok.yZ.mem hb).1;rw[e]at this;cases this
def â.bs(I:â X bv Z H s):∀b o,X.à.get? b=some o->s.heap.get? b=some o/\H b=none:=λb o e =>
 ⟨I.à.keep b o (I.ok.bs b o e).1 (I.ok.bs b o e).2 (I.ok.aBh e) (I.ok.J1 b o e),I.à.free b o (I.ok.bs b o e).1 (I.ok.bs b o e).2 (I.ok.J1 b o e)⟩
def â.bk(I:â X bv Z H s):∀b o,X.à.get? b=some o->s.heap.get? b=some o:=λb o e=>(I.bs b o e).1
def â.mod(I:â X bv Z H s):Mod X.K X.mg X.à:=I.ok.mod
def â.MA(I:â X bv Z H s):X.K.In s.heap:=I.ok.mod.Uj.keeps I.bk
def â.lt(I:â X bv Z H s):X.env.locals<s.heap.objs.size:=let⟨_,hn,_⟩:=I.loc;hn.lt
def â.sz(I:â X bv Z H s):X.s₀.heap.objs.size<=s.heap.objs.size:=iA I.ok.above (gT I.lt)
def â.aBi(I:â X bv Z H s){a:JY}(h:s.heap.objs.size<=a):a∉X.fs:=λhb=>by obtain⟨_,o,ho,_⟩:=I.ok.yZ.mem hb;exact absurd (fS (bC ho) (iA I.sz h)) (gR _)
def â.Vg(I:â X bv Z H s):∀x c,X.env.cells.lookup x=some c->c≠X.env.locals:=λx c e z=>by obtain⟨v,o,ho,hd⟩:=I.cell x c e;obtain⟨m,⟨o',es,ep,GJ,Bs,_⟩,_⟩:=I.loc;rw[z,GJ]at ho;cases ho;rw[Bs]at hd;cases hd
def â.yZ(I:â X bv Z H s):s.heap.FunFrames X.à X.á:=by
 have all:∀(l:List Env),(∀b∈NL l,b∈X.fs)->X.s₀.heap.FunFrames X.à l->s.heap.FunFrames X.à l:=by
  intro l
  induction l with
  |nil=>intro _ _;trivial
  |cons env r ih =>
   intro hs hl;obtain⟨hk,⟨L,o,hf,hn,ho,hd⟩,hr⟩:=hl;have hL:L∈X.fs:=hs L (by unfold NL;rw[zh,hf];exact bp);obtain⟨sl,e⟩:=I.à.slot L o ho (I.ok.Vf L hL) hL λz=>I.ok.J2 L z hL;exact⟨hk,⟨L,_,hf,hn,e,hd⟩,ih (λb hb=>hs b (by unfold NL;rw[zh,hf];exact bU _ hb)) hr⟩
 exact all X.á (λ_ hb=>hb) I.ok.yZ
def â.stack(I:â X bv Z H s):s.heap.FunFrames X.à X.stack:=by
 rcases I.ok.stk with e|⟨e,hf⟩
 .rw[e];exact I.yZ
 rw[e];obtain⟨m,hn,_⟩:=I.loc;refine .cons (by rw[I.ok.kind];decide) hf hn ?_ I.yZ;exact Heap.get?_none_of_le (iA I.ok.Ry I.ok.above)
def â.J3(I:â X bv Z H s):∀b∈NL X.stack,b∈X.env.locals::X.fs:=λb hb=>by
 rcases I.ok.stk with e|⟨e,hf⟩
 .rw[e]at hb;exact bU _ hb
 rw[e]at hb;unfold NL at hb;rw[zh,hf]at hb;exact hb
def â.MB(I:â X bv Z H s):∀b∈NL X.stack,H b=none:=λb hb=>by
 rcases au.mp (I.J3 b hb)with e|hb
 .rw[e];exact I.free
 obtain⟨_,o,ho,_⟩:=I.ok.yZ.mem hb;exact I.à.free b o ho (I.ok.Vf b hb) λz=>I.ok.J2 b z hb
def â.step{g':Array GenState}{t':Nat}{d':Drawn}{ch:List JY}(I:â X bv Z H s)(Rk:∀b∈ch,(b∈X.ex\/X.s₀.heap.objs.size<=b)/\b≠X.env.locals/\(∀x c,X.env.cells.lookup x=some c->c≠b)/\∀p∈X.pn++bv,p.1≠b)(keep:∀b o,b≠X.env.locals->b∉X.fs->b∉ch->s.heap.get? b=some o->H b=none->h'.get? b=some o)(slot:∀b o,b≠X.env.locals->b∈X.fs->b∉ch->s.heap.get? b=some o->H b=none->∃sl,h'.get? b=some {o with slots:=sl})(free:∀b o,b∉ch->s.heap.get? b=some o->H b=none->H' b=none)(there:∀b o,b∉ch->s.heap.get? b=some o->∃o',h'.get? b=some o')(GU:∀b xs,H b=some (.tup xs)->H' b=some (.tup xs))(EJ:∀b o u,H b=some (.Rj o u)->H' b=some (.Rj o u))(GV:∀b ps,H b=some (.Vb ps)->∃more,H' b=some (.Vb (ps++more)))(ns:∀m,s.heap.Ns X.env.locals m->h'.Ns X.env.locals m)(cI:tZ X.prog X.w H' h')(hg:AllBare g'):
  â X bv Z H' {s with heap:=h',gens:=g',drawn:=d',toks:=t'}:=by
 have neL:∀b o,X.s₀.heap.get? b=some o->b≠X.env.locals:=λb o e=>cg (fS (bC e) I.ok.above);have neC:∀b o,X.s₀.heap.get? b=some o->b∉X.ex->b∉ch:=λb o e hx hb=>by
  rcases(Rk b hb).1 with z|z
  .exact hx z
  exact absurd (fS (bC e) z) (gR _)
 have cellK:∀x c,X.env.cells.lookup x=some c->∀v,s.heap.IsCell c v->h'.IsCell c v:=λx c e v ⟨o,ho,hd⟩=>by
  have X4:c∉ch:=λz=>(Rk c z).2.2.1 x c e rfl;by_cases hc:c∈X.fs
  .obtain⟨sl,q⟩:=slot c o (I.Vg x c e) hc X4 ho (I.oO x c e);exact⟨_,q,hd⟩
  exact⟨o,keep c o (I.Vg x c e) hc X4 ho (I.oO x c e),hd⟩
 refine⟨I.ok,I.os,hg,⟨λb o e n hb hx=>?_,λb o e n hb hx=>?_,λb o e n hx=>?_,λb o e hx=>?_,λb xs e=>GU b xs (I.à.GU b xs e),λb o xs e=>EJ b o xs (I.à.EJ b o xs e),λb ps e=>?_⟩,?_,λx c e=>?_,?_,λx c e=>?_,λp hp=>?_,cI,I.len⟩
 .exact keep b o (neL b o e) hb (neC b o e hx) (I.à.keep b o e n hb hx) (I.à.free b o e n hx)
 .obtain⟨sl,e1⟩:=I.à.slot b o e n hb hx;obtain⟨sl',e2⟩:=slot b _ (neL b o e) hb (neC b o e hx) e1 (I.à.free b o e n hx);exact⟨sl',e2⟩
 .obtain⟨o',e1⟩:=I.à.there b o e hx;exact free b o' (neC b o e hx) e1 (I.à.free b o e n hx)
 .obtain⟨o',e1⟩:=I.à.there b o e hx;exact there b o' (neC b o e hx) e1
 .obtain⟨m1,e1⟩:=I.à.GV b ps e;obtain⟨m2,e2⟩:=GV b _ e1;exact⟨m1++m2,by rw[e2,Array.append_assoc]⟩
 .obtain⟨m,hn,hl⟩:=I.loc;refine⟨m,ns m hn,λi x v e1 e2 e3=>?_⟩;obtain⟨u,r,l⟩:=hl i x v e1 e2 e3;refine⟨u,r,?_⟩;rcases l with l|⟨k,c,e,z⟩
  .exact .inl l
  exact .inr ⟨k,c,e,cellK x c e _ z⟩
 .obtain⟨v,z⟩:=I.cell x c e;exact⟨v,cellK x c e v z⟩
 .obtain⟨m,⟨o,_,_,ho,_⟩,_⟩:=I.loc;exact free _ o (λz=>(Rk _ z).2.1 rfl) ho I.free
 .obtain⟨v,o,ho,hd⟩:=I.cell x c e;exact free c o (λz=>(Rk c z).2.2.1 x c e rfl) ho (I.oO x c e)
 obtain⟨e,n,ne,nf,d⟩:=I.pin p hp;have X4:p.1∉ch:=λz=>(Rk p.1 z).2.2.2 p hp rfl;exact⟨keep p.1 p.2 ne nf X4 e n,free p.1 p.2 X4 e n,ne,nf,d⟩
def â.un{t':Nat}(I:â X bv Z H s)(u:Un X.fs [] H H' s.heap h')(cI:tZ X.prog X.w H' h'):â X bv Z H' {s with heap:=h',toks:=t'}:=by
 obtain⟨m,⟨o,es,ep,ho,r⟩,_⟩:=id I.loc;obtain⟨sl,hL⟩:=u.any ho I.free (by simp);exact I.step (g':=s.gens) (d':=s.drawn) (ch:=[]) (λ_ z=>nomatch z) (λb o _ hb _ e n=>u.keep b o e n hb (by simp)) (λb o _ hb _ e n=>u.slot b o e n hb (by simp)) (λb o _ e n=>u.free b o e n (by simp)) (λb o _ e=>u.there b o e (by simp)) u.GU u.EJ u.GV (λm' hm=>by obtain⟨o',es',ep',GJ,r'⟩:=hm;rw[ho]at GJ;cases GJ;exact⟨_,es',ep',hL,r'⟩) cI I.bare
def â.call{g':Array GenState}{t':Nat}{d':Drawn}{ch:List JY}(I:â X bv Z H s)(u:Un (NL X.stack) ch H H' s.heap h')(cI:tZ X.prog X.w H' h')(hg:AllBare g')(Rk:∀b∈ch,(b∈X.ex\/X.s₀.heap.objs.size<=b)/\b≠X.env.locals/\(∀x c,X.env.cells.lookup x=some c->c≠b)/\∀p∈X.pn++bv,p.1≠b):
  â X bv Z H' {s with heap:=h',gens:=g',drawn:=d',toks:=t'}:=by
 obtain⟨m,⟨o,es,ep,ho,r⟩,_⟩:=id I.loc;obtain⟨sl,hL⟩:=u.any ho I.free λz=>(Rk _ z).2.1 rfl;exact I.step (ch:=ch) Rk (λb o hL hb hc e n=>u.keep b o e n (λz=>(au.mp (I.J3 b z)).elim hL hb) hc) (λb o _ _ hc e n=>u.any e n hc) (λb o hc e n=>u.free b o e n hc) (λb o hc e=>u.there b o e hc) u.GU u.EJ u.GV (λm' hm=>by obtain⟨o',es',ep',GJ,r'⟩:=hm;rw[ho]at GJ;cases GJ;exact⟨_,es',ep',hL,r'⟩) cI hg
def â.turned{t':Nat}{it:JY}(I:â X bv Z H s)(k:∀b o,b≠it->s.heap.get? b=some o->h'.get? b=some o)(hn:H it=none)(hL:it≠X.env.locals)(h1:it∈X.ex\/X.s₀.heap.objs.size<=it)(h2:∀x c,X.env.cells.lookup x=some c->c≠it)(h3:∀p∈X.pn++bv,p.1≠it):â X bv Z H {s with heap:=h',toks:=t'}:=by
 have nit:∀b u,H b=some u->b≠it:=λb u e z=>by rw[z,hn]at e;cases e
 refine I.step (g':=s.gens) (d':=s.drawn) (ch:=[it]) (λb hb=>?_) (λb o _ _ hc e _=>k b o (λz=>hc (by simp[z])) e) (λb o _ _ hc e _=>⟨o.slots,k b o (λz=>hc (by simp[z])) e⟩) (λ_ _ _ _ n=>n)
  (λb o hc e=>⟨o,k b o (λz=>hc (by simp[z])) e⟩) (λ_ _ e=>e) (λ_ _ _ e=>e) (λb ps e=>⟨#[],by rw[e];simp⟩) (λm hm=>?_) (λb u e=>?_) I.bare
 .have e:b=it:=by simpa using hb
  subst e;exact⟨h1,hL,h2,h3⟩
 .obtain⟨o,es,ep,ho,r⟩:=hm;exact⟨o,es,ep,k _ o (bS hL) ho,r⟩
 refine(I.cI b u e).rF (λc v hc q=>k c v ?_ q) (λ_ q=>q) λ_ _ q=>q;rcases hc with z|z
 .rw[z];exact nit b u e
 exact nit c _ z
def â.tok(I:â X bv Z H s)(t:Nat):â X bv Z H {s with toks:=t}:=I.un (h':=s.heap) (t':=t) Un.refl I.cI
def â.kept{t':Nat}(I:â X bv Z H s)(k:∀b u,s.heap.get? b=some u->h'.get? b=some u):â X bv Z H {s with heap:=h',toks:=t'}:=I.un (Un.kept k) (I.cI.kept k)
def â.laid{a:JY}{o:HO}{t':Nat}(I:â X bv Z H s)(k:∀b u,s.heap.get? b=some u->h'.get? b=some u)(hp:s.heap.objs.size<=a)(new:cY X.prog X.w (ü H a o) h' a o):
  â X bv Z (ü H a o) {s with heap:=h',toks:=t'}:=I.un (Un.laid k hp (I.cI.fresh hp)) (I.cI.laid k hp new)
def â.write{x e:JY}{o:HO}{t':Nat}(I:â X bv Z H s)(mu:Xb (H x))(he:e=x\/H e=some (.own x))(k:∀b u,b≠e->s.heap.get? b=some u->h'.get? b=some u)(Xc:∃u,h'.get? e=some u)(new:cY X.prog X.w (ü H x o) h' x o):â X bv Z (ü H x o) {s with heap:=h',toks:=t'}:=I.un (Un.write mu he k Xc) (I.cI.write mu he k Xc new)
def â.MC{Uk:List (JY×Obj)}(I:â X bv Z H s)(h:∀p∈Uk,s.heap.get? p.1=some p.2/\H p.1=none/\p.1≠X.env.locals/\p.1∉X.fs/\∀v,p.2.data≠.cell v):â X Uk Z H s :=
 ⟨I.ok,I.os,I.bare,I.à,I.loc,I.cell,I.free,I.oO,λp hp=>(cH.mp hp).elim (λz=>I.pin p (tJ _ z)) (h p),I.cI,I.len⟩
def GW{N:List Str}(hN:N.Nodup){i j:Nat}{x:Str}(a:N[i]?=some x)(b:N[j]?=some x):i=j:=by obtain⟨h1,e1⟩:=bq.mp a;obtain⟨h2,e2⟩:=bq.mp b;exact(oM hN).mp (e1.trans e2.symm)
def Cm{M:Model}{A:Jd}{E:JZ->JX->Prop}{i:Nat}{x:Str}{v:V}{u:JZ}{Q:Unit->JX->Prop}(I:â X bv Z H s)(hN:X.N.Nodup)(hi:X.N[i]?=some x)(hx:í X.env.scope x)(r:æ v u)(h:∀s',â X bv (Z.set i (some v)) H s'->(∃a,Heap.SameBut a s.heap s'.heap/\(a=X.env.locals\/X.env.cells.lookup x=some a))->Q () s')(hf:X.fn x=true\/X.env.scope.names.lookup x=some .local:=by first|exact .inl rfl|exact .inr rfl|assumption):wpAny M A (storeName X.env x u) Q E s:=by
 obtain⟨m,hn,hl⟩:=id I.loc;have aBl:(X.env.scope.kind==.class||(X.env.scope.kind==.module&&X.env.locals != X.env.globals))=false:=by rw[I.ok.kind];rfl
 have hiσ:i<Z.length:=by rw[I.len];exact(bq.mp hi).1
 have Vg:=I.Vg;have tracked:∀{a:JY}{h':Heap},(∃o,s.heap.get? a=some o/\H a=none)->Heap.SameBut a s.heap h'->tZ X.prog X.w H h':=λ{a h'} ha hs b ob e=>by
  obtain⟨_,_,Ul⟩:=ha;refine(I.cI b ob e).rF (λc w' hc q=>(hs.2 c ?_).trans q) (λ_ q=>q) λ_ _ q=>q;rintro rfl;rcases hc with rfl|hc
  .rw[Ul]at e;cases e
  rw[Ul]at hc;cases hc
 rcases hx with hk|hk
 .refine wpAny_storeName_local hk hn (λh' J4 hs=>?_) aBl;obtain⟨oL,_,_,X5,_⟩:=id hn;refine h _ ⟨I.ok,I.os,I.bare,⟨λb o e n hb hx=>?_,λb o e n hb hx=>?_,I.à.free,λb o e hx=>?_,I.à.GU,I.à.EJ,I.à.GV⟩,⟨_,J4,λj y v' e1 e2 e3=>?_⟩,λy c e=>?_,I.free,I.oO,λp hp=>?_,tracked ⟨oL,X5,I.free⟩ hs,by simpa using I.len⟩ ⟨_,hs,.inl rfl⟩
  .exact(hs.2 b (cg (fS (bC e) I.ok.above))).trans (I.à.keep b o e n hb hx)
  .obtain⟨sl,e1⟩:=I.à.slot b o e n hb hx;exact⟨sl,(hs.2 b (cg (fS (bC e) I.ok.above))).trans e1⟩
  .obtain⟨o',e1⟩:=I.à.there b o e hx;exact⟨o',(hs.2 b (cg (fS (bC e) I.ok.above))).trans e1⟩
  .by_cases hj:j=i
   .subst hj;rw[hi]at e1;cases e1;rw[Ji hiσ]at e2;cases e2;exact⟨u,r,.inl ⟨hk,by simp⟩⟩
   rw[Jr (bS hj)]at e2;obtain⟨u',r',q⟩:=hl j y v' e1 e2 e3;refine⟨u',r',?_⟩;rcases q with⟨k,e⟩|⟨k,c,e,z⟩
   .refine .inl ⟨k,?_⟩;have:y≠x:=λe=>hj (GW hN e1 (e▸hi));simp[this,e]
   exact .inr ⟨k,c,e,z.sameBut hs (Vg y c e)⟩
  .obtain⟨w',z⟩:=I.cell y c e;exact⟨w',z.sameBut hs (Vg y c e)⟩
  obtain⟨e,n,ne,nf,d⟩:=I.pin p hp;exact⟨(hs.2 p.1 ne).trans e,n,ne,nf,d⟩
 have hfn:X.fn x=true:=by
  rcases hf with z|z
  .exact z
  rw[z]at hk;cases hk
 obtain⟨c,hc⟩:=I.ok.has x (.inl hk);obtain⟨w',z⟩:=I.cell x c hc;refine wpAny_storeName_cell I.ok.kind hk hc z (λh' hc' hs=>?_);obtain⟨oc,hoc,aBn⟩:=id z;refine h {s with heap:=h'} ⟨I.ok,I.os,I.bare,⟨λb o e n hb hx=>?_,λb o e n hb hx=>?_,I.à.free,λb o e hx=>?_,I.à.GU,I.à.EJ,I.à.GV⟩,⟨m,hn.sameBut hs (bS (Vg x c hc)),λj y v' e1 e2 e3=>?_⟩,λy c' e=>?_,I.free,I.oO,λp hp=>?_,tracked ⟨oc,hoc,I.oO x c hc⟩ hs,by simpa using I.len⟩ ⟨c,hs,.inr hc⟩
 .exact(hs.2 b (cg (fS (bC e) (I.ok.Ve x c hfn hc)))).trans (I.à.keep b o e n hb hx)
 .obtain⟨sl,e1⟩:=I.à.slot b o e n hb hx;exact⟨sl,(hs.2 b (cg (fS (bC e) (I.ok.Ve x c hfn hc)))).trans e1⟩
 .obtain⟨o',e1⟩:=I.à.there b o e hx;exact⟨o',(hs.2 b (cg (fS (bC e) (I.ok.Ve x c hfn hc)))).trans e1⟩
 .by_cases hj:j=i
  .subst hj;rw[hi]at e1;cases e1;rw[Ji hiσ]at e2;cases e2;exact⟨u,r,.inr ⟨.inl hk,c,hc,hc'⟩⟩
  rw[Jr (bS hj)]at e2;obtain⟨u',r',q⟩:=hl j y v' e1 e2 e3;refine⟨u',r',?_⟩;rcases q with q|⟨k,c',e,z'⟩
  .exact .inl q
  refine .inr ⟨k,c',e,z'.sameBut hs ?_⟩;rintro rfl;exact hj (GW hN e1 (I.ok.inj _ _ _ e hc▸hi))
 .by_cases Rm:c'=c
  .subst Rm;exact⟨_,hc'⟩
  obtain⟨w2,z2⟩:=I.cell y c' e;exact⟨w2,z2.sameBut hs Rm⟩
 obtain⟨e,n,ne,nf,d⟩:=I.pin p hp;refine⟨(hs.2 p.1 ?_).trans e,n,ne,nf,d⟩;intro q;rw[q,hoc]at e;have q':oc=p.2:=bR e;exact d w' (by rw[<-q'];exact aBn)
def AI{M:Model}{A:Jd}{E:JZ->JX->Prop}{i:Nat}{x:Str}{v:V}{u:JZ}{Q:Unit->JX->Prop}(I:â X bv Z H s)(hN:X.N.Nodup)(hi:X.N[i]?=some x)(hx:í X.env.scope x)(r:æ v u)(h:∀s',â X bv (Z.set i (some v)) H s'->Q () s')(hf:X.fn x=true\/X.env.scope.names.lookup x=some .local:=by first|exact .inl rfl|exact .inr rfl|assumption):wpAny M A (storeName X.env x u) Q E s :=
 Cm I hN hi hx r (λs' I' _=>h s' I') hf
def â.Ox{s':JX}{ch:List JY}(I:â X bv Z H s)(ho:s'.os=s.os)(u:Un (NL X.stack) ch H H' s.heap s'.heap)(cI:tZ X.prog X.w H' s'.heap)(hg:AllBare s'.gens)(Rk:∀b∈ch,(b∈X.ex\/X.s₀.heap.objs.size<=b)/\b≠X.env.locals/\(∀x c,X.env.cells.lookup x=some c->c≠b)/\∀p∈X.pn++bv,p.1≠b):â X bv Z H' s':=by obtain⟨h',g',d',t',o'⟩:=s';have e:o'=s.os:=ho;subst e;exact I.call (g':=g') (t':=t') (d':=d') u cI hg Rk
end
abbrev XK:=JZ->Option JY->Hp->Prop
abbrev St:=List (Option V)
abbrev VK:=V->Hp->Prop
abbrev TE:=St->Hp->VK->Prop
variable{X:Cx}{e b c tg l iter:Expr}{t ta tb te tl:TE}{A:Jd}{E Q:JZ->JX->Prop}{s:JX}{i k n:Nat}{x name m qual:Str}{pos pos' p apos:Pos}{bv:List (JY×Obj)}{Z:St}{H:Hp}{u:JZ}{v y:V}{a C dx:JY}{op Vt:CmpOp}{xs vs Bu:List V}{tc:TT}{es:List Expr}{o:Option JZ}{body:List Stmt}{w:Jb}{lo:Int}{fp:List JY}{h à:Heap}{pl:Sem Bool}{R:Result->JX->Prop}{f:JZ->JZ->Sem JZ}{r:List V->Hp->VK->Prop}{g:List JZ->List JZ->List JZ}{aa us ds:List JZ}{mA mg:Str->Option JZ}{prog:Ja}{expr:Bool}{kw:List (Str×JZ)}{fs fs':List (Str×V)}{á:List Env}{fd:Jc}{ps N:List Str}{kws:List Keyword}{nm:Option Str}{gV:List V->List V->List V}{scope:Scope}{params:Arguments}{GN:Array (Option JZ)}
abbrev TT:=St->Hp->(Bool->Hp->Prop)->Prop
abbrev TA:=St->Hp->(List V->Hp->Prop)->Prop
structure ï where
 nx:St->Hp->Prop
 rt:VK
 bk:St->Hp->Prop:=λ_ _=>False
 ct:St->Hp->Prop:=λ_ _=>False
abbrev TS:=ï->St->Hp->Prop
def EP(X:Cx)(bv:List (JY×Obj))(Z:St)(Q:VK)(u:JZ)(s':JX):Prop:=∃v H',â X bv Z H' s'/\æ v u/\Q v H'
def TP(X:Cx)(bv:List (JY×Obj))(Z:St)(Q:Bool->Hp->Prop)(b:Bool)(s':JX):Prop:=∃H',â X bv Z H' s'/\Q b H'
def AP(X:Cx)(bv:List (JY×Obj))(Z:St)(Q:List V->Hp->Prop)(us:List JZ)(s':JX):Prop:=∃vs H',â X bv Z H' s'/\aq vs us/\Q vs H'
def SP(X:Cx)(bv:List (JY×Obj))(D:ï)(f:Flow)(s':JX):Prop :=
 match f with
 |.next=>∃Z' H',â X bv Z' H' s'/\D.nx Z' H'
 |.brk=>∃Z' H',â X bv Z' H' s'/\D.bk Z' H'
 |.cont=>∃Z' H',â X bv Z' H' s'/\D.ct Z' H'
 |.ret u=>∃v Z' H',â X bv Z' H' s'/\æ v u/\D.rt v H'
def PE(X:Cx)(e:Expr)(t:TE):Prop :=
 ∀(bv:List (JY×Obj))(s:JX)(Z:St)(H:Hp)(Q:VK),â X bv Z H s->t Z H Q->wX X (eval e X.env) (EP X bv Z Q) X.xe s
def PT(X:Cx)(e:Expr)(t:TT):Prop :=
 ∀(bv:List (JY×Obj))(s:JX)(Z:St)(H:Hp)(Q:Bool->Hp->Prop),â X bv Z H s->t Z H Q->wX X (isTrue e X.env (eval e X.env)) (TP X bv Z Q) X.xe s
def PW(X:Cx)(e:Expr)(t:TT):Prop :=
 ∀(whole:Sem JZ)(bv:List (JY×Obj))(s:JX)(Z:St)(H:Hp)(Q:Bool->Hp->Prop),â X bv Z H s->t Z H Q->wX X (isTrue e X.env whole) (TP X bv Z Q) X.xe s
def PW.pt{t:TT}(h:PW X e t):PT X e t:=h _
def PA(X:Cx)(es:List Expr)(t:TA):Prop :=
 ∀(pos:Pos)(bv:List (JY×Obj))(s:JX)(Z:St)(H:Hp)(Q:List V->Hp->Prop),â X bv Z H s->t Z H Q->wX X (spliced (backTo pos (starEach es X.env))) (AP X bv Z Q) X.xe s
def PS(X:Cx)(st:Stmt)(t:TS):Prop :=
 ∀(bv:List (JY×Obj))(s:JX)(Z:St)(H:Hp)(D:ï),â X bv Z H s->t D Z H->wX X (exec st X.env) (SP X bv D) X.xe s
def JP(X:Cx)(st:List Stmt)(t:TS):Prop :=
 ∀(bv:List (JY×Obj))(s:JX)(Z:St)(H:Hp)(D:ï),â X bv Z H s->t D Z H->wX X (execs st X.env) (SP X bv D) X.xe s
def cC{α:Type}{t:Sem α}{Q Q':α->JX->Prop}{M:Model}(h:wpAny M A t Q E s)(hQ:∀a s,Q a s->Q' a s):wpAny M A t Q' E s:=gW h hQ λ_ _ x=>x
section
inductive J5(i:Nat)(Z:St)(H:Hp)(Q:VK):Prop
 |mk (v:V) (_:Z[i]?=some (some v)) (_:Q v H)
def tC(v:V):TE:=λ_ H Q=>Q v H
def Vh(hN:X.N[i]?=some x)(hv:X2 X.env.scope x)(hd:(x==("__debug__":Str))=false:=by decide)(Cn:(x==("__classdict__":Str))=false:=by decide):PE X (.Name x pos) (J5 i):=by
 intro bv s Z H Q I h;obtain⟨v,e,h⟩:=h;obtain⟨m,hn,hl⟩:=I.loc;obtain⟨u,r,l⟩:=hl i x v hN e hv;have fin:EP X bv Z Q u s:=⟨v,H,I,r,h⟩;rcases l with⟨hk,hm⟩|⟨hk,c,hc,Co⟩
 .exact wpAny_Name (wpAny_loadName_local I.ok.kind hk hn hm fin) hd
 rcases hk with hk|hk
 .exact wpAny_Name (wpAny_loadName_cell I.ok.kind hk hc Co fin) hd
 exact wpAny_Name (wpAny_loadName_free I.ok.kind hk hc Co fin Cn) hd
def aF{i j pos}:PE X (.Constant (.int i) j pos) (tC (.int i)):=λ_ _ _ H _ I h=>wpAny_Constant_int ⟨.int i,H,I.tok _,⟨_,rfl⟩,h⟩
def jw{b j pos}:PE X (.Constant (.bool b) j pos) (tC (.bl b)):=λ_ _ _ H _ I h=>Constant_bool ⟨.bl b,H,I,rfl,h⟩
def eC{j pos}:PE X (.Constant .none j pos) (tC .cX):=λ_ _ _ H _ I h=>Constant_none ⟨.cX,H,I,rfl,h⟩
def cE{x j pos}:PE X (.Constant (.str x) j pos) (tC (.str x)):=λ_ _ _ H _ I h=>Calls.Constant_str ⟨.str x,H,I.tok _,⟨_,rfl⟩,h⟩
def Gl(X:Cx)(x:Str):Prop:=X.env.kindOf x=some .globalImplicit
def EL(I:â X bv Z H s)(hg:Gl X x)(hm:X.mg x=some u)(h:Q u s)(hd:(x==("__debug__":Str))=false:=by decide):wX X (eval (.Name x pos) X.env) Q E s :=
 Calls.Name_function_global I.ok.kind hg (Calls.loadGlobal_global (by rw[I.ok.glob];exact I.mod.glob.keeps I.bk) hm h) hd
def mh(I:â X bv Z H s)(hg:Gl X x)(hm:X.mg x=none)(hv:bootBuiltins x=some u)(h:Q u s)(hn:x≠"__name__":=by decide)(hd:(x==("__debug__":Str))=false:=by decide):wX X (eval (.Name x pos) X.env) Q E s:=by obtain⟨mb,h1,h2⟩:=I.mod.blt;exact Calls.Name_function_global I.ok.kind hg (Calls.loadGlobal_builtin (by rw[I.ok.glob];exact I.mod.glob.keeps I.bk) hm (by rw[I.ok.blt];exact h1.keeps I.bk) ((h2 x hn).trans hv) h) hd
def mm(hg:Gl X x)(hm:X.mg x=some u)(r:æ v u)(hd:(x==("__debug__":Str))=false:=by decide):PE X (.Name x pos) (tC v) :=
 λ_ _ _ H _ I h=>EL I hg hm ⟨v,H,I,r,h⟩ hd
variable{a:Expr}
def PC(X:Cx)(op:CmpOp)(a b:Expr)(t:TE):Prop :=
 ∀(bv:List (JY×Obj))(s:JX)(Z:St)(H:Hp)(Q:VK),â X bv Z H s->t Z H Q ->
  wX X (eval a X.env) (λv s₁=>wX X (eval b X.env) (λu s₂=>wX X (compareOp op v u) (EP X bv Z Q) X.xe s₂) X.xe s₁) X.xe s
def tB(t:TE):TT:=λZ H Q=>t Z H λx H1=>∃c,x=.bl c/\Q c H1
def Vi(h:PC X op a b t)(h1:behindInMarks op b=false:=by first|exact Oy _ (by decide) (by decide)|rfl):PE X (.Compare a [op] [b] pos) t:=λbv s Z H Q I hw=>wpAny_Compare1 (h bv s Z H Q I hw) h1
def EM(h:PC X op a b t)(h1:behindInMarks op b=false:=by first|exact Oy _ (by decide) (by decide)|rfl):PT X (.Compare a [op] [b] pos) (tB t):=by intro bv s Z H Q I hw;refine wpAny_isTrue_Compare1 (cC (h bv s Z H _ I hw) λv s1 h1=>cC h1 λu s2 h2=>cC h2 λc s3 h_=>?_) h1;obtain⟨x,H1,I1,r1,q1⟩:=h_;obtain⟨d,rfl,q⟩:=q1;cases r1;exact lu ⟨H1,I1,q⟩
def fX(h:PE X e t)(he:∀whole,isTrue e X.env whole=(do let v <- whole;standAt e.pos;holding [v] (truthy v)):=by intro _;rfl):PT X e (tB t):=by intro bv s Z H Q I hw;refine isTrue_plain (cC (h bv s Z H _ I hw) λv s1 h_=>?_) (he _);obtain⟨x,H1,I1,r1,q1⟩:=h_;obtain⟨d,rfl,q⟩:=q1;cases r1;exact lu ⟨H1,I1,q⟩
variable{tA X6:TT}{û:List Expr}
def aBo(t u:TT):TT:=λZ H Q=>t Z H λc H1=>if c=true then u Z H1 Q else Q false H1
def tOr(t u:TT):TT:=λZ H Q=>t Z H λc H1=>if c=true then Q true H1 else u Z H1 Q
def aBp(t:TT):TT:=λZ H Q=>t Z H λc H1=>Q (!c) H1
def EN(ha:PT X a tA):PW X (.BoolOp .And [a] pos) tA:=by
 intro wh bv s Z H Q I h;refine isTrue_and (cC (ha bv s Z H Q I h) λc s1 e=>?_);cases c with
 |true=>exact isTrue_and_nil e
 |false=>exact e
def jx(ha:PT X a tA):PW X (.BoolOp .Or [a] pos) tA:=by
 intro wh bv s Z H Q I h;refine isTrue_or (cC (ha bv s Z H Q I h) λc s1 e=>?_);cases c with
 |false=>exact isTrue_or_nil e
 |true=>exact e
def J6(ha:PT X a tA)(hb:PW X (.BoolOp .And (b::û) pos) X6):PW X (.BoolOp .And (a::b::û) pos) (aBo tA X6):=by
 intro wh bv s Z H Q I h;refine isTrue_and (cC (ha bv s Z H _ I h) λc s1 ⟨H1,I1,q1⟩=>?_);cases c with
 |true=>exact hb wh bv s1 Z H1 Q I1 q1
 |false=>exact⟨H1,I1,q1⟩
def kX(ha:PT X a tA)(hb:PW X (.BoolOp .Or (b::û) pos) X6):PW X (.BoolOp .Or (a::b::û) pos) (tOr tA X6):=by
 intro wh bv s Z H Q I h;refine isTrue_or (cC (ha bv s Z H _ I h) λc s1 ⟨H1,I1,q1⟩=>?_);cases c with
 |true=>exact⟨H1,I1,q1⟩
 |false=>exact hb wh bv s1 Z H1 Q I1 q1
def eE(ha:PT X a tA):PT X (.UnaryOp .Not a pos) (aBp tA):=by intro bv s Z H Q I h;exact isTrue_not (ha bv s Z H (λc H1=>Q (!c) H1) I h)
def Um(ta tb:TE):TE:=λZ H Q=>ta Z H λx H1=>∃c,x=.bl c/\if c=true then tb Z H1 Q else Q (.bl false) H1
def aBq(ta tb:TE):TE:=λZ H Q=>ta Z H λx H1=>∃c,x=.bl c/\if c=true then Q (.bl true) H1 else tb Z H1 Q
def X7(ta:TE):TE:=λZ H Q=>ta Z H λx H1=>∃c,x=.bl c/\Q (.bl (!c)) H1
def tf{op}(h:PE X a t):PE X (.BoolOp op [a] pos) t:=λbv s Z H Q I hw=>BoolOp_one (h bv s Z H Q I hw)
def oy(ha:PE X a ta)(hb:PE X (.BoolOp .And (b::û) pos) tb):PE X (.BoolOp .And (a::b::û) pos) (Um ta tb):=by
 intro bv s Z H Q I h;refine BoolOp_and (cC (ha bv s Z H _ I h) λv s1 h_=>?_);obtain⟨x,H1,I1,r1,q1⟩:=h_;obtain⟨c,rfl,q1⟩:=q1;cases r1;refine lu ?_;cases c with
 |true=>exact hb bv s1 Z H1 Q I1 q1
 |false=>exact⟨.bl false,H1,I1,rfl,q1⟩
def X8(ha:PE X a ta)(hb:PE X (.BoolOp .Or (b::û) pos) tb):PE X (.BoolOp .Or (a::b::û) pos) (aBq ta tb):=by
 intro bv s Z H Q I h;refine BoolOp_or (cC (ha bv s Z H _ I h) λv s1 h_=>?_);obtain⟨x,H1,I1,r1,q1⟩:=h_;obtain⟨c,rfl,q1⟩:=q1;cases r1;refine lu ?_;cases c with
 |false=>exact hb bv s1 Z H1 Q I1 q1
 |true=>exact⟨.bl true,H1,I1,rfl,q1⟩
def Vj(ha:PE X a ta):PE X (.UnaryOp .Not a pos) (X7 ta):=by intro bv s Z H Q I h;refine UnaryOp_ (cC (ha bv s Z H _ I h) λv s1 h_=>?_);obtain⟨x,H1,I1,r1,q1⟩:=h_;obtain⟨c,rfl,q1⟩:=q1;cases r1;exact not_of (lu ⟨.bl (!c),H1,I1,rfl,q1⟩)
def tIf(t:TT)(ta tb:TE):TE:=λZ H Q=>t Z H λc H1=>if c=true then ta Z H1 Q else tb Z H1 Q
def uw(hc:PT X c tA)(ha:PE X a ta)(hb:PE X b tb):PE X (.IfExp c a b pos) (tIf tA ta tb):=by
 intro bv s Z H Q I h;refine wpAny_IfExp (cC (hc bv s Z H _ I h) λd s1 ⟨H1,I1,q1⟩=>?_);cases d with
 |true=>exact ha bv s1 Z H1 Q I1 q1
 |false=>exact hb bv s1 Z H1 Q I1 q1
end
def aX(K:Ni)(H:Hp)(a:JY)(xs:List V):Prop :=
 Rd H a (.lst xs) \/
  ∃(o:Obj)(aa:Array JZ)(n:Nat),K.lookup a=some o/\o.cls=.type "list"/\o.dict=none/\o.data=.seq aa n/\aa.size<=sizeLine/\aq xs aa.toList
def bO(K:Ni)(H:Hp)(a:JY)(xs:List V):Prop :=
 Rd H a (.tup xs) \/
  ∃(o:Obj)(aa:Array JZ)(n:Nat),K.lookup a=some o/\o.cls=.type "tuple"/\o.data=.seq aa n/\aa.size<=sizeLine/\aq xs aa.toList
def aBr:JZ->Option V
 |.none=>some .cX
 |.bool b=>some (.bl b)
 |.int i _=>some (.int i)
 |.str x _=>some (.str x)
 |.bytes b _=>some (.L9 b)
 |.float b _=>some (.flt b)
 |.ref a=>some (.ref a)
 |.type n=>some (.ty n)
 |_=>none
def æ.abs{x:V}(r:æ x u):aBr u=some x:=by
 cases x with
 |cX=>cases r;rfl
 |bl _=>cases r;rfl
 |int _=>obtain⟨t,rfl⟩:=r;rfl
 |str _=>obtain⟨t,rfl⟩:=r;rfl
 |L9 _=>obtain⟨t,rfl⟩:=r;rfl
 |flt _=>obtain⟨t,rfl⟩:=r;rfl
 |ref _=>cases r;rfl
 |ty _=>cases r;rfl
def æ.inj{x:V}(r:æ x u)(q:æ y u):x=y:=bR (r.abs.symm.trans q.abs)
def aq.inj:∀{xs ys:List V}{us:List JZ},aq xs us->aq ys us->xs=ys
 |_,_,_,.nil,.nil=>rfl
 |_,_,_,.cons r t,.cons r' t'=>by rw[r.inj r',aq.inj t t']
section
variable{ys:List V}
def aX.of{K:Ni}(h:H a=some (.lst xs)):aX K H a xs:=.inl (.inl h)
def bO.of{K:Ni}(h:H a=some (.tup xs)):bO K H a xs:=.inl (.inl h)
def â.list(I:â X bv Z H s)(h:aX X.K H a xs):∃aa:List JZ,aq xs aa/\PlainL s.heap a aa.toArray/\xs.length<=sizeLine:=by
 rcases h with h|⟨o,aa,n,hk,hc,hd,hs,hz,r⟩
 .obtain⟨z,aa,n,r,e⟩:=h.ok I.cI;exact⟨aa,r,⟨_,n,e,rfl,rfl,rfl⟩,z⟩
 refine⟨aa.toList,r,⟨o,n,I.MA a o hk,hc,hd,by simpa using hs⟩,?_⟩;have e:=r.length;simp only[fq]at e;lia
def â.tuple(I:â X bv Z H s)(h:bO X.K H a xs):∃aa:List JZ,aq xs aa/\IsTup s.heap a aa.toArray/\xs.length<=sizeLine:=by
 rcases h with h|⟨o,aa,n,hk,hc,hs,hz,r⟩
 .obtain⟨z,aa,r,p⟩:=h.ok I.cI;exact⟨aa,r,p,z⟩
 refine⟨aa.toList,r,⟨o,I.MA a o hk,hc,n,by simpa using hs⟩,?_⟩;have e:=r.length;simp only[fq]at e;lia
def â.GX(I:â X bv Z H s)(h:aX X.K H a xs)(h':aX X.K H a ys):xs=ys:=by
 obtain⟨aa,r,⟨o,n,e,_,_,d⟩,_⟩:=I.list h;obtain⟨its',r',⟨o',n',e',_,_,d'⟩,_⟩:=I.list h';rw[e]at e';cases e';rw[d]at d';injection d' with d1 _;have:aa=its':=by simpa using az Array.toList d1
 subst this;exact r.inj r'
def â.qf(I:â X bv Z H s)(h:bO X.K H a xs)(h':bO X.K H a ys):xs=ys:=by
 obtain⟨aa,r,⟨o,e,_,n,d⟩,_⟩:=I.tuple h;obtain⟨its',r',⟨o',e',_,n',d'⟩,_⟩:=I.tuple h';rw[e]at e';cases e';rw[d]at d';injection d' with d1 _;have:aa=its':=by simpa using az Array.toList d1
 subst this;exact r.inj r'
end
abbrev Cx.AJ(X:Cx)(E:JZ->JX->Prop):Cx:={X with xe:=E}
abbrev Cx.J7(X:Cx):Cx:=X.AJ λ_ _=>False
def Cx.Ok.AJ{X:Cx}(ok:X.Ok)(E:JZ->JX->Prop):(X.AJ E).Ok :=
 ⟨ok.mod,ok.kind,ok.glob,ok.blt,ok.above,ok.inj,ok.has,ok.Ve,ok.hd,ok.frames,ok.stk,ok.X3,ok.bs,ok.Ry,ok.J1,ok.J2,ok.yZ,ok.Vf⟩
def Cx.Ok.mn(ok:(X.AJ E).Ok):X.Ok :=
 ⟨ok.mod,ok.kind,ok.glob,ok.blt,ok.above,ok.inj,ok.has,ok.Ve,ok.hd,ok.frames,ok.stk,ok.X3,ok.bs,ok.Ry,ok.J1,ok.J2,ok.yZ,ok.Vf⟩
def â.AJ(I:â X bv Z H s)(E:JZ->JX->Prop):â (X.AJ E) bv Z H s:=⟨I.ok.AJ E,I.os,I.bare,I.à,I.loc,I.cell,I.free,I.oO,I.pin,I.cI,I.len⟩
def â.mn(I:â (X.AJ E) bv Z H s):â X bv Z H s:=⟨I.ok.mn,I.os,I.bare,I.à,I.loc,I.cell,I.free,I.oO,I.pin,I.cI,I.len⟩
def SP.mn{D:ï}{f:Flow}{s':JX}(h:SP (X.AJ E) bv D f s'):SP X bv D f s':=by
 cases f with
 |next=>obtain⟨Z',H',I,q⟩:=h;exact⟨Z',H',I.mn,q⟩
 |brk=>obtain⟨Z',H',I,q⟩:=h;exact⟨Z',H',I.mn,q⟩
 |cont=>obtain⟨Z',H',I,q⟩:=h;exact⟨Z',H',I.mn,q⟩
 |ret u=>obtain⟨v,Z',H',I,r,q⟩:=h;exact⟨v,Z',H',I.mn,r,q⟩
section
variable{st:Stmt}{û:List Stmt}{t u:TS}
def X9:TS:=λD Z H=>D.nx Z H
def aBs(t u:TS):TS:=λD Z H=>t {D with nx:=u D} Z H
def aW:JP X [] X9:=λ_ _ Z H _ I h=>zr ⟨Z,H,I,h⟩
def aC(h1:PS X st t)(h2:JP X û u):JP X (st::û) (aBs t u):=by
 intro bv s Z H D I h;refine wpAny_execs_cons (cC (h1 bv s Z H {D with nx:=u D} I h) λf s1 q=>?_)
 cases f with
 |next =>
  obtain⟨Z',H',I',q⟩:=q;exact h2 bv s1 Z' H' D I' q
 |ret v=>exact q
 |brk=>exact q
 |cont=>exact q
def aE(h1:PS X st t):JP X [st] t:=by
 intro bv s Z H D I h;refine wpAny_execs_cons (cC (h1 bv s Z H D I h) λf s1 q=>?_);cases f with
 |next=>exact zr q
 |ret v=>exact q
 |brk=>exact q
 |cont=>exact q
def â.quiet(I:â X bv Z H s):interactive X.env=false:=by simp[interactive,I.ok.kind]
def YA(te:TE):TS:=λD Z H=>te Z H λ_ H1=>D.nx Z H1
def bA(he:PE X e te)(hs:swapsWith e none pos.line X.env=pure false:=by rfl):PS X (.Expr e pos) (YA te):=by intro bv s Z H D I h;exact wpAny_Expr_any (cC (he bv s Z H _ I h) λv s1 h_=>by obtain⟨x,H1,I1,r1,q1⟩:=h_;exact⟨Z,H1,I1,q1⟩) I.quiet hs
def aBt(te:TE):TS:=λD Z H=>te Z H D.rt
def aQ(he:PE X e te):PS X (.Return (some e) pos) (aBt te):=by intro bv s Z H D I h;exact wpAny_Return_some (cC (he bv s Z H _ I h) λv s1 h_=>by obtain⟨x,H1,I1,r1,q1⟩:=h_;exact⟨x,Z,H1,I1,r1,q1⟩)
def aBu(c:TT)(t u:TS):TS:=λD Z H=>c Z H λb H1=>if b=true then t D Z H1 else u D Z H1
def ax{a b:List Stmt}(hc:PT X c tc)(ha:JP X a t)(hb:JP X b u):PS X (.If c a b pos) (aBu tc t u):=by
 intro bv s Z H D I h;refine wpAny_If (cC (hc bv s Z H _ I h) λd s1 ⟨H1,I1,q1⟩=>?_);cases d with
 |true=>exact ha bv s1 Z H1 D I1 q1
 |false=>exact hb bv s1 Z H1 D I1 q1
end
abbrev TG:=V->St->Hp->(St->Hp->Prop)->Prop
abbrev Vk:=List V->St->Hp->(St->Hp->Prop)->Prop
def PG(X:Cx)(target:Expr)(t:TG):Prop :=
 ∀(bv:List (JY×Obj))(s:JX)(Z:St)(H:Hp)(v:V)(u:JZ)(Q:St->Hp->Prop),â X bv Z H s->æ v u->t v Z H Q ->
  wX X (assign target X.env u) (λ_ s'=>∃Z' H',â X bv Z' H' s'/\Q Z' H') X.xe s
def YB(X:Cx)(ts:List Expr)(t:Vk):Prop :=
 ∀(bv:List (JY×Obj))(s:JX)(Z:St)(H:Hp)(vs:List V)(us:List JZ)(Q:St->Hp->Prop),â X bv Z H s->aq vs us->t vs Z H Q ->
  wX X (assignInOrder ((assignEach ts X.env).map (·.2)) us) (λ_ s'=>∃Z' H',â X bv Z' H' s'/\Q Z' H') X.xe s
abbrev Vl:=V->V->V->Hp->(Hp->Prop)->Prop
def YC(X:Cx)(t:Vl):Prop :=
 ∀(bv:List (JY×Obj))(s:JX)(Z:St)(H:Hp)(o i v:V)(ov iv u:JZ)(Q:Hp->Prop),â X bv Z H s->æ o ov->æ i iv->æ v u->t o i v H Q ->
  wX X (setItem ov iv u) (λ_ s'=>∃H',â X bv Z H' s'/\Q H') X.xe s
abbrev TIp:=V->V->Hp->VK->Prop
def PIp(X:Cx)(op:Operator)(t:TIp):Prop :=
 ∀(bv:List (JY×Obj))(s:JX)(Z:St)(H:Hp)(x y:V)(v u:JZ)(Q:VK),â X bv Z H s->æ x v->æ y u->t x y H Q ->
  wX X (inplaceOp op v u) (EP X bv Z Q) X.xe s
def gX(i:Nat):TG:=λv Z H Q=>Q (Z.set i (some v)) H
def gs(hN:X.N.Nodup)(hi:X.N[i]?=some x)(hx:í X.env.scope x)(hf:X.fn x=true\/X.env.scope.names.lookup x=some .local:=by first|exact .inl rfl|exact .inr rfl|assumption):PG X (.Name x pos) (gX i):=by intro bv s Z H v u Q I r h;exact wpAny_assign_Name (AI I hN hi hx r (λs' I'=>⟨_,H,I',h⟩) hf)
def Oz:Vk:=λvs Z H Q=>vs=[]/\Q Z H
inductive ux(t:TG)(u:Vk)(vs:List V)(Z:St)(H:Hp)(Q:St->Hp->Prop):Prop
 |mk (v:V) (r:List V) (_:vs=v::r) (_:t v Z H λZ' H'=>u r Z' H' Q)
def qg:YB X [] Oz:=by intro bv s Z H vs us Q I r h;obtain⟨e,h⟩:=h;subst e;cases r;exact assignInOrder_nil ⟨Z,H,I,h⟩
def b9{t:TG}{u:Vk}(h1:PG X e t)(h2:YB X es u)(hs:(assignEach (e::es) X.env).map (·.2)=assign e X.env::(assignEach es X.env).map (·.2):=by rfl):YB X (e::es) (ux t u):=by
 intro bv s Z H vs us Q I r h;obtain⟨v,vr,e1,h⟩:=h;subst e1;cases r with
 |cons r rr =>
  rw[hs];refine assignInOrder_cons (cC (h1 bv s Z H _ _ _ I r h) λ_ s1 ⟨σ1,H1,I1,q1⟩=>?_);exact h2 bv s1 σ1 H1 _ _ Q I1 rr q1
inductive NM(K:Ni)(n:Nat)(t:Vk)(v:V)(Z:St)(H:Hp)(Q:St->Hp->Prop):Prop
 |mk (a:JY) (xs:List V) (_:v=.ref a) (_:bO K H a xs) (_:xs.length=n) (_:t xs Z H Q)
def wq{t:Vk}(hc:X.calm=true)(h:YB X es t)(hn:(assignEach es X.env).length=n:=by rfl)(Bt:(assignEach es X.env).findIdx? (·.1)=none:=by rfl):PG X (.Tuple es k pos) (NM X.K n t):=by
 intro bv s Z H v u Q I r hw;obtain⟨a,xs,e1,hq,hl,hw⟩:=hw;subst e1;cases r;obtain⟨aa,rv,ht,hz⟩:=I.tuple hq;refine assign_Tuple_tuple (I.ok.hd hc) ht (by simp[hn,<-hl,rv.length]) Bt λh' hx=>?_;have I1:â X bv Z H {s with heap:=h'}:=I.kept (t':=s.toks) λb o e=>hx b o (cg (bC e)) e
 exact h bv _ Z H xs _ Q I1 (by simpa using rv) hw
def aBv(to ti:TE)(t:Vl):TG:=λv Z H Q=>to Z H λo H1=>ti Z H1 λi H2=>t o i v H2 λH3=>Q Z H3
def tj{o i:Expr}{to ti:TE}{t:Vl}(ho:PE X o to)(hi:PE X i ti)(hs:YC X t)(ha:∀v,assign (.Subscript o i pos) X.env v=(do
   let ov <- holding [v] (eval o X.env)
   let iv <- holding [v,ov] (eval i X.env)
   standAt pos
   holding [v,ov,iv] (setItem ov iv v)
   release [v,ov,iv] []):=by intro _;rfl):PG X (.Subscript o i pos) (aBv to ti t):=by
 intro bv s Z H v u Q I r h;rw[ha];refine aG (gp (cC (ho bv s Z H _ I h) λov s1 h_=>?_));obtain⟨x,H1,I1,r1,q1⟩:=h_;refine aG (gp (cC (hi bv s1 Z H1 _ I1 q1) λiv s2 h_=>?_));obtain⟨y,H2,I2,r2,q2⟩:=h_;refine aG (wpAny_standAt (aG (gp (cC (hs bv s2 Z H2 x y v ov iv u _ I2 r1 r2 r q2) λ_ s3 ⟨H3,I3,q3⟩=>?_))));exact wpAny_release ⟨Z,H3,I3,q3⟩
def O0(te:TE)(g:TG):TS:=λD Z H=>te Z H λx H1=>g x Z H1 D.nx
def tm{g:TG}(he:PE X e te)(hg:PG X tg g)(hs:swapsWithSole [tg] e pos.line X.env=pure false:=by rfl)(hw:swappedStores [tg] e X.env=pure none:=by rfl)(h1:(assignEach [tg] X.env).map (·.2)=[assign tg X.env]:=by rfl):PS X (.Assign [tg] e pos) (O0 te g):=by intro bv s Z H D I h;refine wpAny_Assign_stores (cC (he bv s Z H _ I h) λv s1 h_=>?_) hs hw;obtain⟨x,H1,I1,r1,q1⟩:=h_;rw[h1];exact cC (hg bv s1 Z H1 x v _ I1 r1 q1) λ_ s2 q=>q
def Vm(hN:X.N.Nodup)(hi:X.N[i]?=some x)(hx:í X.env.scope x)(he:PE X e te)(hs:swapsWith e (some (.Name x pos')) pos.line X.env=pure false:=by rfl)(hf:X.fn x=true\/X.env.scope.names.lookup x=some .local:=by first|exact .inl rfl|exact .inr rfl|assumption):
  PS X (.Assign [.Name x pos'] e pos) (O0 te (gX i)):=by
 intro bv s Z H D I h;refine wpAny_Assign_Name (cC (he bv s Z H _ I h) λv s1 h_=>?_) hs;obtain⟨y,H1,I1,r1,q1⟩:=h_;exact AI I1 hN hi hx r1 (λs2 I2=>⟨_,H1,I2,q1⟩) hf
def aBw(i:Nat)(te:TE)(ti:TIp):TS:=λD Z H=>∃x,Z[i]?=some (some x)/\te Z H λy H1=>ti x y H1 λz H2=>D.nx (Z.set i (some z)) H2
def Vn{op:Operator}{ti:TIp}(hN:X.N.Nodup)(hi:X.N[i]?=some x)(hx:í X.env.scope x)(he:PE X e te)(ho:PIp X op ti)(hf:X.fn x=true\/X.env.scope.names.lookup x=some .local:=by first|exact .inl rfl|exact .inr rfl|assumption):
  PS X (.AugAssign (.Name x pos') op e pos) (aBw i te ti):=by
 intro bv s Z H D I h;obtain⟨v,e1,h⟩:=h;obtain⟨m,hn,hl⟩:=I.loc;have vis:X2 X.env.scope x:=by rcases hx with k|k;exact .inl k;exact .inr (.inl k)
 obtain⟨u,r,l⟩:=hl i x v hi e1 vis;refine wpAny_AugAssign_Name ?_;have go:wX X (eval e X.env) (λw s₂=>wX X (inplaceOp op u w) (λr s₃=>wX X (storeName X.env x r) (λ_=>SP X bv D .next) X.xe s₃) X.xe s₂) X.xe s:=by refine cC (he bv s Z H _ I h) λw s1 h_=>?_;obtain⟨y,H1,I1,r1,q1⟩:=h_;refine cC (ho bv s1 Z H1 v y u w _ I1 r r1 q1) λz s2 h_=>?_;obtain⟨zv,H2,I2,r2,q2⟩:=h_;exact AI I2 hN hi hx r2 (λs3 I3=>⟨_,H2,I3,q2⟩) hf
 rcases l with⟨hk,hm⟩|⟨hk,c,hc,Co⟩
 .exact wpAny_loadName_local I.ok.kind hk hn hm go
 rcases hk with hk|hk
 .exact wpAny_loadName_cell I.ok.kind hk hc Co go
 rcases hx with k|k
 .have:X.env.scope.names.lookup x=some .free:=hk;rw[k]at this;cases this
 have:X.env.scope.names.lookup x=some .free:=hk;rw[k]at this;cases this
def ipI(f:Int->Int->Int):TIp:=λx y H Q=>∃i j,x=.int i/\y=.int j/\Q (.int (f i j)) H
def Vo:PIp X .Add (ipI λi j=>i+j):=by intro bv s Z H x y v u Q I r1 r2 h;obtain⟨i,j,e1,e2,q⟩:=h;subst e1;subst e2;obtain⟨t,rfl⟩:=r1;obtain⟨t',rfl⟩:=r2;exact iadd_int ⟨.int _,H,I.tok _,⟨_,rfl⟩,q⟩
def O1(c:TT)(tb:TS):TS:=λD Z H=>∃W:Nat->St->Hp->Prop,(∃m,W m Z H)/\∀m Z H,W m Z H ->
 c Z H λb H1=>if b=true then ∃N:St->Hp->Prop,(∀Z' H',N Z' H'->∃m',m'<m/\W m' Z' H')/\tb {D with nx:=N,ct:=N,bk:=D.nx} Z H1 else D.nx Z H1
def uy{tb:TS}(hp:PassesOwn (model X.prog X.w) X.A X.env X.xe)(hc:PT X c tc)(hb:JP X body tb):PS X (.While c body [] pos) (O1 tc tb):=by
 intro bv s Z H D I h;obtain⟨W,⟨m0,w0⟩,turn⟩:=h;refine wpAny_While (codeAny_whileLoop (λn s'=>∃Z' H',â X bv Z' H' s'/\W n Z' H') ?_ m0 ⟨Z,H,I,w0⟩);rintro n s1 ⟨σ1,H1,I1,w1⟩;refine tU hp (cC (hc bv s1 σ1 H1 _ I1 (turn n σ1 H1 w1)) λb s2 ⟨H2,I2,q2⟩=>?_);cases b with
 |true =>
  obtain⟨N,hN,q2⟩:=q2;rw[aL rfl];refine tU hp (cC (hb bv s2 σ1 H2 _ I2 q2) λf s3 q3=>?_);cases f with
  |next =>
   obtain⟨σ3,H3,I3,n3⟩:=q3;obtain⟨m',hm,w3⟩:=hN σ3 H3 n3;exact⟨m',hm,σ3,H3,I3,w3⟩
  |cont =>
   obtain⟨σ3,H3,I3,n3⟩:=q3;obtain⟨m',hm,w3⟩:=hN σ3 H3 n3;exact⟨m',hm,σ3,H3,I3,w3⟩
  |brk=>exact q3
  |ret v=>exact q3
 |false =>
  rw[aK cG];exact zr ⟨σ1,H2,I2,q2⟩
structure It where
 go:Nat->Hp->Prop
 Rn:Nat->Hp->V->Hp->Prop
 stop:Nat->Hp->Prop
def wu(X:Cx)(bv:List (JY×Obj))(H:Hp)(b:JY):Prop :=
 H b=none/\b≠X.env.locals/\b∉X.fs/\(b∈X.ex\/X.s₀.heap.objs.size<=b)/\(∀x c,X.env.cells.lookup x=some c->c≠b)/\∀p∈X.pn++bv,p.1≠b
def â.yb{H':Hp}{b:JY}(I:â X bv Z H s)(hb:s.heap.objs.size<=b)(hn:H' b=none):wu X bv H' b:=by
 refine⟨hn,ju (fS I.lt hb),I.aBi hb,.inr (iA I.sz hb),λx c e z=>?_,λp hp z=>?_⟩
 .obtain⟨v,q⟩:=I.cell x c e;exact absurd (fS q.lt (by rw[z];exact hb)) (gR _)
 exact absurd (fS (bC (I.pin p hp).1) (by rw[z];exact hb)) (gR _)
structure î(P:Ja)(w:Jb)(K:Ni)(tg:Expr)(J:It)(fp:List JY)(it:JY)(tn:Nat->Heap->Prop):Prop where
 mem:it∈fp
 obj:∀i h,tn i h->∀b∈fp,∃o,h.get? b=some o/\∀v,o.data≠.cell v
 keep:∀i h h',tn i h->(∀b∈fp,∀o,h.get? b=some o->h'.get? b=some o)->tn i h'
 item:∀(X:Cx),X.prog=P->X.w=w->X.K=K->X.calm=true->∀(i:Nat)(bv:List (JY×Obj))(s:JX)(Z:St)(H:Hp)(E:JZ->JX->Prop),â X bv Z H s->(∀b∈fp,wu X bv H b)->tn i s.heap->J.go i H ->
  wpAny (model P w) X.A (pyNext (.ref it)) (λr s1=>∃u,r=some u /\
   wpAny (model P w) X.A (letOwnedTupleGo tg (.ref it) u) (λ_ s2=>∃x H',â X bv Z H' s2/\æ x u/\J.Rn i H x H'/\tn (i+1) s2.heap/\∀b∈fp,H' b=none) E s1) E s
 done:∀(X:Cx),X.prog=P->X.w=w->X.K=K->X.calm=true->∀(i:Nat)(bv:List (JY×Obj))(s:JX)(Z:St)(H:Hp)(E:JZ->JX->Prop),â X bv Z H s->(∀b∈fp,wu X bv H b)->tn i s.heap->J.stop i H ->
  wpAny (model P w) X.A (pyNext (.ref it)) (λr s1=>r=none/\â X bv Z H s1) E s
 self:∀(A:Jd)(i:Nat)(s:JX)(Q:JZ->JX->Prop)(E:JZ->JX->Prop),tn i s.heap->Q (.ref it) s->wpAny (model P w) A (pyIter (.ref it)) Q E s
abbrev TI:=St->Hp->(It->Hp->Prop)->Prop
def PIE(X:Cx)(bv:List (JY×Obj))(Z:St)(tg:Expr)(R:It->Hp->Prop)(itv:JZ)(s2:JX):Prop :=
 ∃(it:JY)(fp:List JY)(tn:Nat->Heap->Prop)(J:It)(H':Hp),itv=.ref it/\â X bv Z H' s2/\î X.prog X.w X.K tg J fp it tn/\tn 0 s2.heap/\(∀b∈fp,wu X bv H' b)/\R J H'
def PI(X:Cx)(tg iter:Expr)(wi:TI):Prop :=
 ∀(bv:List (JY×Obj))(s:JX)(Z:St)(H:Hp)(R:It->Hp->Prop),â X bv Z H s->wi Z H R ->
  wX X (eval iter X.env) (λv s1=>wX X (pyIter v) (PIE X bv Z tg R) X.xe s1) X.xe s
def AK{M:Model}{it:JY}{o:Obj}{n:String}{vs:Array JZ}{Q:Unit->JX->Prop}(ho:s.heap.get? it=some o)(hc:o.cls=.type n)(hd:o.data=.fields vs)(hn:["enumerate","zip","dict_itemiterator","dict_reverseitemiterator","odict_iterator","itertools.zip_longest","itertools.pairwise"].contains n=false)(hQ:Q () s):wpAny M A (letOwnedTupleGo tg (.ref it) u) Q E s:=by
 unfold letOwnedTupleGo;cases tg<;>first
  |exact aS hQ
  | (cases u<;>first
    |exact aS hQ
    | (refine aG (wo ho ?_)
       rw[hc,hd];show wpAny M A (if(["enumerate","zip","dict_itemiterator","dict_reverseitemiterator","odict_iterator","itertools.zip_longest","itertools.pairwise"].contains n&&vs[0]?==some (rawInt _))=true then _ else _) Q E s;rw[aK (by intro h;rw[hn,Bool.false_and]at h;cases h)];exact aS hQ))
def YD(K:Ni)(a:JY):It :=
 ⟨λi H=>∃xs x,aX K H a xs/\xs[i]?=some x,λi H x H'=>H'=H/\∀xs,aX K H a xs->xs[i]?=some x,λi H=>∃xs,aX K H a xs/\xs.length<=i⟩
def Itt(K:Ni)(a:JY):It :=
 ⟨λi H=>∃xs x,bO K H a xs/\xs[i]?=some x,λi H x H'=>H'=H/\∀xs,bO K H a xs->xs[i]?=some x,λi H=>∃xs,bO K H a xs/\xs.length<=i⟩
def Vp(lo:Int)(n:Nat):It:=⟨λi _=>i<n,λi H x H'=>H'=H/\x=.int (lo+i),λi _=>n<=i⟩
def Cp{P:Ja}{K:Ni}(a it:JY):î P w K tg (YD K a) [it] it (λi h=>h.IsListIter it a i)where
 mem:=by simp
 obj:=λi h st b hb=>by
  have e:b=it:=by simpa using hb
  subst e;obtain⟨o,e,c,d⟩:=st;exact⟨o,e,λv z=>by rw[d]at z;cases z⟩
 keep:=λi h h' st k=>st.at λo e=>k it (by simp) o e
 item:=by
  intro X hP hw hK hc i bv s Z H E I hf st hg;subst hP hw hK;obtain⟨xs,x,hq,hx⟩:=hg;obtain⟨aa,rv,p,hz⟩:=I.list hq;obtain⟨u,hu,ru⟩:=rv.get hx;obtain⟨f0,f1,f2,f3,f4,f5⟩:=hf it (by simp);refine wpAny_pyNext_list_item st p.isList (x:=u) (by simpa using hu) λh' tq sb=>?_;have I1:â X bv Z H {s with heap:=h'}:=I.turned (t':=s.toks) (λb o hb e=>(sb.2 b hb).trans e) f0 f1 f3 f4 f5
  obtain⟨o,e,c,d⟩:=id tq;exact⟨u,rfl,AK (s:={s with heap:=h'}) e c d (by decide) ⟨x,H,I1,ru,⟨rfl,λys hy=>by rw[I.GX hy hq];exact hx⟩,tq,λb hb=>(hf b hb).1⟩⟩
 done:=by intro X hP hw hK hc i bv s Z H E I hf st hg;subst hP hw hK;obtain⟨xs,hq,hx⟩:=hg;obtain⟨aa,rv,p,hz⟩:=I.list hq;obtain⟨f0,f1,f2,f3,f4,f5⟩:=hf it (by simp);have hl:=rv.length;exact wpAny_pyNext_list_end (I.ok.hd hc) st p.isList (by simp;lia) λh' eb=>⟨rfl,I.turned (t':=s.toks) (λb o hb e=>eb b o hb e) f0 f1 f3 f4 f5⟩
 self:=λ_ _ _ _ _ st h=>wpAny_pyIter_listiter st h
def AL{P:Ja}{K:Ni}(a it:JY):î P w K tg (Itt K a) [it] it (λi h=>h.IsTupleIter it a i)where
 mem:=by simp
 obj:=λi h st b hb=>by
  have e:b=it:=by simpa using hb
  subst e;obtain⟨o,e,c,d⟩:=st;exact⟨o,e,λv z=>by rw[d]at z;cases z⟩
 keep:=λi h h' st k=>st.at λo e=>k it (by simp) o e
 item:=by
  intro X hP hw hK hc i bv s Z H E I hf st hg;subst hP hw hK;obtain⟨xs,x,hq,hx⟩:=hg;obtain⟨aa,rv,p,hz⟩:=I.tuple hq;obtain⟨u,hu,ru⟩:=rv.get hx;obtain⟨f0,f1,f2,f3,f4,f5⟩:=hf it (by simp);refine wpAny_pyNext_tuple_item st (show s.heap.IsTuple a aa.toArray from p) (x:=u) (by simpa using hu) λh' tq sb=>?_;have I1:â X bv Z H {s with heap:=h'}:=I.turned (t':=s.toks) (λb o hb e=>(sb.2 b hb).trans e) f0 f1 f3 f4 f5
  obtain⟨o,e,c,d⟩:=id tq;exact⟨u,rfl,AK (s:={s with heap:=h'}) e c d (by decide) ⟨x,H,I1,ru,⟨rfl,λys hy=>by rw[I.qf hy hq];exact hx⟩,tq,λb hb=>(hf b hb).1⟩⟩
 done:=by intro X hP hw hK hc i bv s Z H E I hf st hg;subst hP hw hK;obtain⟨xs,hq,hx⟩:=hg;obtain⟨aa,rv,p,hz⟩:=I.tuple hq;obtain⟨f0,f1,f2,f3,f4,f5⟩:=hf it (by simp);have hl:=rv.length;exact wpAny_pyNext_tuple_end (I.ok.hd hc) st (show s.heap.IsTuple a aa.toArray from p) (by simp;lia) λh' eb=>⟨rfl,I.turned (t':=s.toks) (λb o hb e=>eb b o hb e) f0 f1 f3 f4 f5⟩
 self:=λ_ _ _ _ _ st h=>wpAny_pyIter_tupleiter st h
def J8{P:Ja}{K:Ni}(it:JY)(lo:Int)(n:Nat):î P w K tg (Vp lo n) [it] it (λi h=>IsRangeIter h it (lo+(i:Nat)*1) ((n:Int)-(i:Nat)) 1)where
 mem:=by simp
 obj:=λi h st b hb=>by
  have e:b=it:=by simpa using hb
  subst e;exact⟨_,st,λv z=>by have z':Data.fields _=Data.cell v:=z;cases z'⟩
 keep:=λi h h' st k=>k it (by simp) _ st
 item:=by
  intro X hP hw hK hc i bv s Z H E I hf st hg;subst hP hw hK;obtain⟨f0,f1,f2,f3,f4,f5⟩:=hf it (by simp);have W:=Walks.range (prog:=X.prog) (w:=X.w) (I.ok.hd hc) it lo 1 n;refine W.item i s _ _ hg st λv h' tk hv tq kk=>?_;obtain⟨t,rfl⟩:=hv;have I1:â X bv Z H {s with heap:=h',toks:=tk}:=I.turned (λb o hb e=>kk b o (by simpa using hb) e) f0 f1 f3 f4 f5
  refine⟨_,rfl,AK (s:={s with heap:=h',toks:=tk}) (n:="range_iterator") tq rfl rfl (by decide) ⟨.int (lo+i),H,I1,⟨t,?_⟩,⟨rfl,rfl⟩,tq,λb hb=>(hf b hb).1⟩⟩
  rw[Int.mul_one]
 done:=by intro X hP hw hK hc i bv s Z H E I hf st hg;subst hP hw hK;obtain⟨f0,f1,f2,f3,f4,f5⟩:=hf it (by simp);exact wpAny_pyNext_range_end (I.ok.hd hc) st (by have:n<=i:=hg;lia) λh' eb=>⟨rfl,I.turned (t':=s.toks) (λb o hb e=>eb b o hb e) f0 f1 f3 f4 f5⟩
 self:=λ_ _ _ _ _ st h=>wpAny_pyIter_rangeiter st h
def Uo(K:Ni)(tl:TE):TI:=λZ H R=>tl Z H λx H1=>∃a,x=.ref a/\(∃xs,aX K H1 a xs)/\R (YD K a) H1
def YE(K:Ni)(tl:TE):TI:=λZ H R=>tl Z H λx H1=>∃a,x=.ref a/\(∃xs,bO K H1 a xs)/\R (Itt K a) H1
def Rz(hl:PE X l tl):PI X tg l (Uo X.K tl):=by
 intro bv s Z H R I h;refine cC (hl bv s Z H _ I h) λv s1 h_=>?_;obtain⟨x,H1,I1,r1,q1⟩:=h_;obtain⟨a,e,⟨xs,hq⟩,q⟩:=q1;subst e;cases r1;obtain⟨aa,rv,p,hz⟩:=I1.list hq;refine tQ p.isList ?_;refine⟨s1.heap.objs.size,[s1.heap.objs.size],_,_,H1,rfl,I1.kept (t':=s1.toks) λb o e=>bG _ e,Cp a _,⟨_,bK _ rfl,rfl,rfl⟩,λb hb=>?_,q⟩;have e:b=s1.heap.objs.size:=by simpa using hb
 subst e;exact I1.yb (ae _) (I1.cI.fresh (ae _))
def Vq(hl:PE X l tl):PI X tg l (YE X.K tl):=by
 intro bv s Z H R I h;refine cC (hl bv s Z H _ I h) λv s1 h_=>?_;obtain⟨x,H1,I1,r1,q1⟩:=h_;obtain⟨a,e,⟨xs,hq⟩,q⟩:=q1;subst e;cases r1;obtain⟨aa,rv,p,hz⟩:=I1.tuple hq;refine Dm (show s1.heap.IsTuple a aa.toArray from p) ?_;refine⟨s1.heap.objs.size,[s1.heap.objs.size],_,_,H1,rfl,I1.kept (t':=s1.toks) λb o e=>bG _ e,AL a _,⟨_,bK _ rfl,rfl,rfl⟩,λb hb=>?_,q⟩;have e:b=s1.heap.objs.size:=by simpa using hb
 subst e;exact I1.yb (ae _) (I1.cI.fresh (ae _))
def GY{R:It->Hp->Prop}{hi:Int}{t u v:Tok}{tk:Nat}(I:â X bv Z H s)(h1:-(2 ^ 62)<=lo)(h2:lo<2 ^ 62)(h3:-(2 ^ 62)<=hi)(h4:hi<2 ^ 62)(q:R (Vp lo (hi-lo).toNat) H):wX X (pyIter (.ref s.heap.objs.size)) (PIE X bv Z tg R) E {s with heap:=s.heap.push {cls:=.type "range",data:=.fields #[.int lo t,.int hi u,.int 1 v]},toks:=tk}:=by
 refine wpAny_pyIter_range (IsRange.new ..) (small_one h1 h2 h3 h4) ?_;have I1:â X bv Z H {s with heap:=s.heap.push {cls:=.type "range",data:=.fields #[.int lo t,.int hi u,.int 1 v]},toks:=tk}:=I.kept λb o e=>bG _ e
 refine⟨(s.heap.push {cls:=.type "range",data:=.fields #[.int lo t,.int hi u,.int 1 v]}).objs.size,[(s.heap.push {cls:=.type "range",data:=.fields #[.int lo t,.int hi u,.int 1 v]}).objs.size],_,_,H,rfl,
  I1.kept (t':=tk) λb o e=>bG _ e,J8 _ lo (hi-lo).toNat,?_,λb hb=>?_,q⟩
 .have e1:lo+((0:Nat):Int)*1=lo:=by simp
  have e2:(((hi-lo).toNat:Nat):Int)-((0:Nat):Int)=Builtin.Range.rangeSize lo hi 1:=by rw[rangeSize_one];split<;>lia
  show IsRangeIter _ _ (lo+((0:Nat):Int)*1) ((((hi-lo).toNat:Nat):Int)-((0:Nat):Int)) 1;rw[e1,e2];exact bK _ rfl
 have e:b=(s.heap.push {cls:=.type "range",data:=.fields #[.int lo t,.int hi u,.int 1 v]}).objs.size:=by simpa using hb
 subst e;exact I1.yb (ae _) (I1.cI.fresh (ae _))
def YF(ta:TA):TI:=λZ H R=>ta Z H λvs H1=>∃j:Int,vs=[.int j]/\-(2 ^ 62)<=j/\j<2 ^ 62/\R (Vp 0 j.toNat) H1
def YG(ta:TA):TI:=λZ H R=>ta Z H λvs H1=>∃i j:Int,vs=[.int i,.int j]/\(-(2 ^ 62)<=i/\i<2 ^ 62/\-(2 ^ 62)<=j/\j<2 ^ 62)/\R (Vp i (j-i).toNat) H1
def cq{a:Expr}{ta:TA}(hg:Gl X "range")(hm:X.mg "range"=none)(ha:PA X [a] ta)(hs:starEach [a] X.env=[(false,eval a X.env)]:=by rfl):PI X tg (.Call (.Name "range" p) [a] [] pos) (YF ta):=by
 intro bv s Z H R I h;refine Call_ (mh I hg hm boot_range (xq (cC (ha pos bv s Z H _ I h) λus s1 h_=>?_) hs rfl));obtain⟨vs,H1,I1,r1,q1⟩:=h_;obtain⟨j,e,q1,q2,q⟩:=q1;subst e;cases r1 with
 |cons r rr =>
  cases rr;obtain⟨t,rfl⟩:=r;exact call_range_1 (GY I1 (by lia) (by lia) q1 q2 (by simpa using q))
def wx{a:Expr}{ta:TA}(hg:Gl X "range")(hm:X.mg "range"=none)(ha:PA X [a,b] ta)(hs:starEach [a,b] X.env=[(false,eval a X.env),(false,eval b X.env)]:=by rfl)(By:starEach [b] X.env=[(false,eval b X.env)]:=by rfl):
  PI X tg (.Call (.Name "range" p) [a,b] [] pos) (YG ta):=by
 intro bv s Z H R I h;refine Call_ (mh I hg hm boot_range (xq (cC (ha pos bv s Z H _ I h) λus s1 h_=>?_) (by rw[hs,By]) (by rw[By];rfl)));obtain⟨vs,H1,I1,r1,q1⟩:=h_;obtain⟨i,j,e,⟨q1,q2,q3,q4⟩,q⟩:=q1;subst e;cases r1 with
 |cons r rr =>
  cases rr with
  |cons r' rr =>
   cases rr;obtain⟨t,rfl⟩:=r;obtain⟨t',rfl⟩:=r';exact call_range_2 (GY I1 q1 q2 q3 q4 q)
def YH(wi:TI)(g:TG)(tb:TS):TS:=λD Z H=>wi Z H λJ H1=>∃W:Nat->Nat->St->Hp->Prop,(∃m,W 0 m Z H1)/\∀i m Z H,W i m Z H ->
 (J.stop i H/\D.nx Z H)\/(J.go i H/\∃N:St->Hp->Prop,(∀Z' H',N Z' H'->∃m',m'<m/\W (i+1) m' Z' H')/\∀x H',J.Rn i H x H'->g x Z H' λσ2 H2=>tb {D with nx:=N,ct:=N,bk:=D.nx} σ2 H2)
def AM(fp:List JY)(h:Heap):List (JY×Obj):=fp.filterMap λb=>(h.get? b).map λo=>(b,o)
def mo{b:JY}{o:Obj}(hb:b∈fp)(e:h.get? b=some o):(b,o)∈AM fp h:=Dg.mpr ⟨b,hb,by rw[e];rfl⟩
def NN{p:JY×Obj}(hp:p∈AM fp h):p.1∈fp/\h.get? p.1=some p.2:=by
 obtain⟨b,hb,e⟩:=Dg.mp hp;cases q:h.get? b with
 |none=>rw[q]at e;cases e
 |some o =>
  rw[q]at e;have e':(b,o)=p:=bR e;subst e';exact⟨hb,q⟩
def â.pinned(I:â X bv Z H s)(hf:∀b∈fp,wu X bv H b)(ho:∀b∈fp,∃o,s.heap.get? b=some o/\∀v,o.data≠.cell v):â X (bv++AM fp s.heap) Z H s :=
 I.MC λp hp=>(cH.mp hp).elim (λz=>I.pin p (ls _ z)) λz=>by obtain⟨hb,e⟩:=NN z;obtain⟨f0,f1,f2,_⟩:=hf p.1 hb;obtain⟨o,e',d⟩:=ho p.1 hb;rw[e]at e';cases e';exact⟨e,f0,f1,f2,d⟩
def â.oz{pl:List (JY×Obj)}(I:â X (bv++pl) Z H s):â X bv Z H s:=I.MC λp hp=>I.pin p (ls _ (tJ _ hp))
def tu{wi:TI}{g:TG}{tb:TS}(hp:PassesOwn (model X.prog X.w) X.A X.env X.xe)(hc:X.calm=true)(hi:PI X tg iter wi)(hg:PG X tg g)(hb:JP X body tb)(hs:∀x,foldedSetIterable iter X.env x=pure x:=by intro _;rfl):PS X (.For tg iter body [] pos) (YH wi g tb):=by
 intro bv s Z H D I h;refine wpAny_For (cC (hi bv s Z H _ I h) λv s1 h1=>cC h1 λitv s2 h2=>?_) hs;obtain⟨it,fp,tn,J,H2,e,I2,T,GK,f2,W,⟨m0,w0⟩,turn⟩:=h2;subst e;have J9:∀{H':Hp},(∀b∈fp,H' b=none)->∀b∈fp,wu X bv H' b:=λhn b hb=>⟨hn b hb,(f2 b hb).2⟩;refine codeAny_forLoop_any (λn s'=>∃i Z' H',â X bv Z' H' s'/\tn i s'.heap/\(∀b∈fp,H' b=none)/\W i n Z' H') ?_ m0 ⟨0,Z,H2,I2,GK,λb hb=>(f2 b hb).1,w0⟩;rintro n s3 ⟨i,σ3,H3,I3,YI,fr3,w3⟩;rcases turn i n σ3 H3 w3 with⟨stop,qn⟩|⟨go,N,hN,step⟩
 .refine tU hp (cC (T.done X rfl rfl rfl hc i bv s3 σ3 H3 X.xe I3 (J9 fr3) YI stop) λr s4 ⟨hr,I4⟩=>?_);subst hr;exact zr ⟨σ3,H3,I4,qn⟩
 refine tU hp (cC (T.item X rfl rfl rfl hc i bv s3 σ3 H3 X.xe I3 (J9 fr3) YI go) λr s4 ⟨u,hr,h4⟩=>?_);subst hr;refine tU hp (cC h4 λ_ s5 h_=>?_);obtain⟨x,H5,I5,r5,y5,Bz,YJ⟩:=h_;have I5':=I5.pinned (J9 YJ) (T.obj _ _ Bz);refine tU hp (cC (hg _ s5 σ3 H5 x u _ I5' r5 (step x H5 y5)) λ_ s6 ⟨σ6,H6,I6,q6⟩=>?_);refine tU hp (cC (hb _ s6 σ6 H6 _ I6 q6) λf s7 q7=>?_);have again:∀{σ7:St}{H7:Hp},â X (bv++AM fp s5.heap) σ7 H7 s7->N σ7 H7->∃m,m<n/\∃i Z' H',â X bv Z' H' s7/\tn i s7.heap/\(∀b∈fp,H' b=none)/\W i m Z' H':=λ{σ7 H7} I7 n7=>by obtain⟨m',hm,w7⟩:=hN σ7 H7 n7;refine⟨m',hm,i+1,σ7,H7,I7.oz,T.keep _ _ _ Bz λb hb o e=>(I7.pin (b,o) (ls _ (ls _ (mo hb e)))).1,λb hb=>?_,w7⟩;obtain⟨o,e,d⟩:=T.obj _ _ Bz b hb;exact(I7.pin (b,o) (ls _ (ls _ (mo hb e)))).2.1
 cases f with
 |next=>obtain⟨σ7,H7,I7,n7⟩:=q7;exact again I7 n7
 |cont=>obtain⟨σ7,H7,I7,n7⟩:=q7;exact again I7 n7
 |brk=>obtain⟨σ7,H7,I7,q7⟩:=q7;exact⟨σ7,H7,I7.oz,q7⟩
 |ret v=>obtain⟨x7,σ7,H7,I7,r7,q7⟩:=q7;exact⟨x7,σ7,H7,I7.oz,r7,q7⟩
def EO(J:It)(g:TG)(tb:TS)(D:ï)(Z:St)(H:Hp):Prop:=∃W:Nat->Nat->St->Hp->Prop,(∃m,W 0 m Z H)/\∀i m Z H,W i m Z H ->
 (J.stop i H/\D.nx Z H)\/(J.go i H/\∃N:St->Hp->Prop,(∀Z' H',N Z' H'->∃m',m'<m/\W (i+1) m' Z' H')/\∀x H',J.Rn i H x H'->g x Z H' λσ2 H2=>tb {D with nx:=N,ct:=N,bk:=D.nx} σ2 H2)
abbrev Bf(tb:TS)(D:ï)(N:St->Hp->Prop):St->Hp->Prop:=λσ2 H2=>tb {D with nx:=N,ct:=N,bk:=D.nx} σ2 H2
def o3{J:It}{g:TG}{tb:TS}{D:ï}(n:Nat)(Pv:Nat->St->Hp->Prop)(h0:Pv 0 Z H)(st:∀i Z H,i<n->Pv i Z H->J.go i H/\∀x H',J.Rn i H x H'->g x Z H' (Bf tb D (Pv (i+1))))(hd:∀Z H,Pv n Z H->J.stop n H/\D.nx Z H):EO J g tb D Z H:=by
 refine⟨λi m Z H=>m=n-i/\i<=n/\Pv i Z H,⟨n,rfl,bt _,h0⟩,?_⟩;rintro i m Z H ⟨rfl,hi,p⟩;by_cases lt:i<n
 .obtain⟨a,b⟩:=st i Z H lt p;exact .inr ⟨a,Pv (i+1),λZ' H' p'=>⟨n-(i+1),by lia,rfl,lt,p'⟩,b⟩
 obtain rfl:i=n:=by lia
 exact .inl (hd Z H p)
def dq{K:Ni}{g:TG}{tb:TS}{D:ï}(Pv:Nat->St->Hp->Prop)(h0:Pv 0 Z H)(hl:∀i Z H,i<=xs.length->Pv i Z H->aX K H a xs)(hs:∀i x Z H,xs[i]?=some x->Pv i Z H->g x Z H (Bf tb D (Pv (i+1))))(hd:∀Z H,Pv xs.length Z H->D.nx Z H):EO (YD K a) g tb D Z H:=by refine o3 xs.length Pv h0 (λi Z H lt p=>?_) λZ H p=>⟨⟨xs,hl _ Z H (ae _) p,ae _⟩,hd Z H p⟩;have q:=hl i Z H (gT lt) p;refine⟨⟨xs,xs[i],q,by simp[lt]⟩,?_⟩;rintro x H' ⟨rfl,y⟩;exact hs i x Z _ (y xs q) p
def y6{K:Ni}{g:TG}{tb:TS}{D:ï}(Pv:Nat->St->Hp->Prop)(h0:Pv 0 Z H)(hl:∀i Z H,i<=xs.length->Pv i Z H->bO K H a xs)(hs:∀i x Z H,xs[i]?=some x->Pv i Z H->g x Z H (Bf tb D (Pv (i+1))))(hd:∀Z H,Pv xs.length Z H->D.nx Z H):EO (Itt K a) g tb D Z H:=by refine o3 xs.length Pv h0 (λi Z H lt p=>?_) λZ H p=>⟨⟨xs,hl _ Z H (ae _) p,ae _⟩,hd Z H p⟩;have q:=hl i Z H (gT lt) p;refine⟨⟨xs,xs[i],q,by simp[lt]⟩,?_⟩;rintro x H' ⟨rfl,y⟩;exact hs i x Z _ (y xs q) p
def gY{g:TG}{tb:TS}{D:ï}(Pv:Nat->St->Hp->Prop)(h0:Pv 0 Z H)(hs:∀i Z H,i<n->Pv i Z H->g (.int (lo+i)) Z H (Bf tb D (Pv (i+1))))(hd:∀Z H,Pv n Z H->D.nx Z H):EO (Vp lo n) g tb D Z H:=by refine o3 n Pv h0 (λi Z H lt p=>⟨lt,?_⟩) λZ H p=>⟨ae _,hd Z H p⟩;rintro x H' ⟨rfl,rfl⟩;exact hs i Z _ lt p
def GZ{c:TT}{tb:TS}{D:ï}(Pv:St->Hp->Prop)(μ:St->Hp->Nat)(h0:Pv Z H)(hs:∀Z H,Pv Z H->c Z H λb H1=>if b=true then tb {D with nx:=λZ' H'=>Pv Z' H'/\μ Z' H'<μ Z H,ct:=λZ' H'=>Pv Z' H'/\μ Z' H'<μ Z H,bk:=D.nx} Z H1 else D.nx Z H1)(mono:∀Z H Q Q',(∀b H1,Q b H1->Q' b H1)->c Z H Q->c Z H Q'):O1 c tb D Z H:=by
 refine⟨λm Z H=>m=μ Z H/\Pv Z H,⟨_,rfl,h0⟩,?_⟩;rintro m Z H ⟨rfl,p⟩;refine mono Z H _ _ (λb H1 q=>?_) (hs Z H p);cases b with
 |true=>exact⟨_,λZ' H' ⟨p',l⟩=>⟨_,l,rfl,p'⟩,q⟩
 |false=>exact q
abbrev R2:=V->V->Hp->VK->Prop
def kY(X:Cx)(f:JZ->JZ->Sem JZ)(r:R2):Prop :=
 ∀(bv:List (JY×Obj))(s:JX)(Z:St)(H:Hp)(x y:V)(v u:JZ)(Q:VK),â X bv Z H s->æ x v->æ y u->r x y H Q ->
  wX X (f v u) (EP X bv Z Q) X.xe s
def UnR(X:Cx)(f:JZ->Sem JZ)(r:V->Hp->VK->Prop):Prop :=
 ∀(bv:List (JY×Obj))(s:JX)(Z:St)(H:Hp)(x:V)(v:JZ)(Q:VK),â X bv Z H s->æ x v->r x H Q ->
  wX X (f v) (EP X bv Z Q) X.xe s
def dt(X:Cx)(f:JZ)(r:List V->Hp->VK->Prop):Prop :=
 ∀(bv:List (JY×Obj))(s:JX)(Z:St)(H:Hp)(xs:List V)(us:List JZ)(Q:VK),â X bv Z H s->aq xs us->r xs H Q ->
  wX X (call f us) (EP X bv Z Q) X.xe s
def aBy(X:Cx)(r:V->Hp->(Bool->Hp->Prop)->Prop):Prop :=
 ∀(bv:List (JY×Obj))(s:JX)(Z:St)(H:Hp)(x:V)(v:JZ)(Q:Bool->Hp->Prop),â X bv Z H s->æ x v->r x H Q ->
  wX X (truthy v) (TP X bv Z Q) X.xe s
def R0(r:R2)(ta tb:TE):TE:=λZ H Q=>ta Z H λx H1=>tb Z H1 λy H2=>r x y H2 Q
def tUn(r:V->Hp->VK->Prop)(ta:TE):TE:=λZ H Q=>ta Z H λx H1=>r x H1 Q
inductive rI(C:Int->Int->Prop)(g:Int->Int->V)(x y:V)(H:Hp)(Q:VK):Prop
 |mk (i j:Int) (_:x=.int i) (_:y=.int j) (_:C i j) (_:Q (g i j) H)
inductive Up(g:Int->Int->V)(x y:V)(H:Hp)(Q:VK):Prop
 |mk (i j:Int) (_:x=.int i) (_:y=.int j) (_:Q (g i j) H)
def rU(g:Int->V):V->Hp->VK->Prop:=λx H Q=>∃i,x=.int i/\Q (g i) H
section
variable{a:Expr}{tc:TE}
def Vr(ha:PE X a ta)(hb:PE X b tb){R:V->V->Hp->Prop}(I:â X bv Z H s)(h:ta Z H λx H1=>tb Z H1 λy H2=>R x y H2)(hf:∀v u s2 x y H2,â X bv Z H2 s2->æ x v->æ y u->R x y H2->wX X (f v u) Q X.xe s2):
  wX X (eval a X.env) (λv s₁=>wX X (eval b X.env) (λu s₂=>wX X (f v u) Q X.xe s₂) X.xe s₁) X.xe s:=by
 refine cC (ha bv s Z H _ I h) λv s1 h_=>?_;obtain⟨x,H1,I1,r1,q1⟩:=h_;refine cC (hb bv s1 Z H1 _ I1 q1) λu s2 h_=>?_;obtain⟨y,H2,I2,r2,q2⟩:=h_;exact hf v u s2 x y H2 I2 r1 r2 q2
def aT{op:Operator}{r:R2}(ho:kY X (binaryOp op) r)(ha:PE X a ta)(hb:PE X b tb):PE X (.BinOp a op b pos) (R0 r ta tb):=by intro bv s Z H Q I h;exact wpAny_BinOp (Vr ha hb I h λv u s2 x y H2 I2 rx ry q=>ho bv s2 Z H2 x y v u Q I2 rx ry q)
def AN{op:UnaryOp}{r:V->Hp->VK->Prop}(ho:UnR X (unaryOp op) r)(ha:PE X a ta):PE X (.UnaryOp op a pos) (tUn r ta):=by intro bv s Z H Q I h;exact UnaryOp_ (cC (ha bv s Z H _ I h) λv s1 h_=>by obtain⟨x,H1,I1,r1,q1⟩:=h_;exact ho bv s1 Z H1 x v Q I1 r1 q1)
def opI{C:Int->Int->Prop}{g:Int->Int->Int}(rule:∀(i j:Int)(t u:Tok)(s:JX)(Q:JZ->JX->Prop)(E:JZ->JX->Prop),C i j->Q (.int (g i j) s.toks) {s with toks:=s.toks+1}->wX X (f (.int i t) (.int j u)) Q E s):
  kY X f (rI C λi j=>.int (g i j)):=by
 intro bv s Z H x y v u Q I rx ry h;obtain⟨i,j,rfl,rfl,hc,q⟩:=h;obtain⟨t,rfl⟩:=rx;obtain⟨t',rfl⟩:=ry;exact rule i j t t' s _ _ hc ⟨.int (g i j),H,I.tok _,⟨_,rfl⟩,q⟩
def YK{g:Int->Int->Int}(rule:∀(i j:Int)(t u:Tok)(s:JX)(Q:JZ->JX->Prop)(E:JZ->JX->Prop),Q (.int (g i j) s.toks) {s with toks:=s.toks+1}->wX X (f (.int i t) (.int j u)) Q E s):
  kY X f (Up λi j=>.int (g i j)):=by
 intro bv s Z H x y v u Q I rx ry h;obtain⟨i,j,rfl,rfl,q⟩:=h;obtain⟨t,rfl⟩:=rx;obtain⟨t',rfl⟩:=ry;exact rule i j t t' s _ _ ⟨.int (g i j),H,I.tok _,⟨_,rfl⟩,q⟩
def R1{g:Int->Int->Bool}(rule:∀(i j:Int)(t u:Tok)(s:JX)(Q:JZ->JX->Prop)(E:JZ->JX->Prop),Q (.bool (g i j)) s->wX X (f (.int i t) (.int j u)) Q E s):
  kY X f (Up λi j=>.bl (g i j)):=by
 intro bv s Z H x y v u Q I rx ry h;obtain⟨i,j,rfl,rfl,q⟩:=h;obtain⟨t,rfl⟩:=rx;obtain⟨t',rfl⟩:=ry;exact rule i j t t' s _ _ ⟨.bl (g i j),H,I,rfl,q⟩
def aBz(i j:Int):Prop:=0<j/\j<1073741824
def aB0(i j:Int):Prop:=0<=j/\j<=1000000/\i.natAbs<2 ^ 64
def Vs(i j:Int):Prop:=(-(2 ^ 64)<i/\i<2 ^ 64)\/(-(2 ^ 64)<j/\j<2 ^ 64)
def Vs.ok{i j:Int}(h:Vs i j):IntMulOk i j:=by
 rcases h with⟨h1,h2⟩|⟨h1,h2⟩
 .exact .of_left (intBits_le_64 h1 h2)
 exact .of_right (intBits_le_64 h1 h2)
def bT:kY X (binaryOp .Add) (Up λi j=>.int (i+j)):=YK λ_ _ _ _ _ _ _ q=>add_int q
def o4:kY X (binaryOp .Sub) (Up λi j=>.int (i-j)):=YK λ_ _ _ _ _ _ _ q=>sub_int q
def dM:kY X (binaryOp .Mult) (rI Vs λi j=>.int (i*j)):=opI λ_ _ _ _ _ _ _ hc q=>mul_int q hc.ok
def y8:kY X (binaryOp .FloorDiv) (rI aBz λi j=>.int (i/j)):=opI λi j _ _ _ _ _ hc q=>by have h1:(0:Int)<j:=hc.1;have h2:j<1073741824:=hc.2;exact floordiv_int (by lia) (by rw[Int.fdiv_eq_ediv_of_nonneg i (by lia)];exact q) (.inl (PyProof.noPylong_small (by lia)))
def cO:kY X (binaryOp .Mod) (rI (λ_ j=>0<j) λi j=>.int (i%j)):=opI λi j _ _ _ _ _ hc q=>by have h1:(0:Int)<j:=hc;exact mod_int' (by lia) (by rw[Int.fmod_eq_emod_of_nonneg i (by lia)];exact q)
def O3:kY X (binaryOp .Pow) (rI aB0 λi j=>.int (i ^ j.toNat)):=opI λ_ _ _ _ _ _ _ hc q=>pow_int_small hc.1 hc.2.1 hc.2.2 q
def unI{f:JZ->Sem JZ}{g:Int->Int}(rule:∀(i:Int)(t:Tok)(s:JX)(Q:JZ->JX->Prop)(E:JZ->JX->Prop),Q (.int (g i) s.toks) {s with toks:=s.toks+1}->wX X (f (.int i t)) Q E s):
  UnR X f (rU λi=>.int (g i)):=by
 intro bv s Z H x v Q I rx h;obtain⟨i,rfl,q⟩:=h;obtain⟨t,rfl⟩:=rx;exact rule i t s _ _ ⟨.int (g i),H,I.tok _,⟨_,rfl⟩,q⟩
def t9:UnR X (unaryOp .USub) (rU λi=>.int (-i)):=unI λ_ _ _ _ _ q=>neg_int q
end
def YL:V->V->Bool
 |.cX,.cX=>true|.cX,.int _=>true|.int _,.cX=>true|.cX,.bl _=>true|.bl _,.cX=>true|.cX,.str _=>true|.str _,.cX=>true
 |.int _,.int _=>true|.bl _,.bl _=>true|.str _,.str _=>true|.L9 _,.L9 _=>true
 |.int _,.str _=>true|.str _,.int _=>true|.bl _,.str _=>true|.str _,.bl _=>true
 |_,_=>false
def rEq:R2:=λx y H Q=>YL x y=true/\Q (.bl (decide (x=y))) H
def rNe:R2:=λx y H Q=>YL x y=true/\Q (.bl (!decide (x=y))) H
def MD{i j:Int}:decide (V.int i=V.int j)=(i==j):=by rw[jq];simp
def O4{i j:Bool}:decide (V.bl i=V.bl j)=(i==j):=by rw[jq];simp
def ME{i j:Str}:decide (V.str i=V.str j)=(i==j):=by rw[jq];simp
def MF{i j:Array UInt8}:decide (V.L9 i=V.L9 j)=(i.toList==j.toList):=by rw[jq];cases i;cases j;simp
section
variable{a:Expr}{tc:TE}
def bY{Q:VK}{k k':Bool}(I:â X bv Z H s)(q:Q (.bl k) H)(e:k=k'):EP X bv Z Q (.bool k') s:=by subst e;exact⟨.bl k,H,I,rfl,q⟩
def jN:kY X (compareOp .Eq) rEq:=by
 intro bv s Z H x y v u Q I rx ry h;obtain⟨hs,q⟩:=h;cases x with
 |cX =>
  cases rx;cases y with
  |cX=>cases ry;exact PySem.EqNone.eq_none_none (bY I q (by simp))
  |bl j=>cases ry;exact PySem.EqNone.eq_none_bool (bY I q (by simp))
  |int j=>obtain⟨t',rfl⟩:=ry;exact PySem.EqNone.eq_none_int (bY I q (by simp))
  |str j=>obtain⟨t',rfl⟩:=ry;exact PySem.EqNone.eq_none_str (bY I q (by simp))
  |_=>exact absurd (show false=true from hs) cG
 |bl i =>
  cases rx;cases y with
  |cX=>cases ry;exact PySem.EqNone.eq_bool_none (bY I q (by simp))
  |bl j=>cases ry;exact eq_bool (bY I q O4)
  |str j=>obtain⟨t',rfl⟩:=ry;exact PySem.EqMixed.eq_bool_str (bY I q (by simp))
  |_=>exact absurd (show false=true from hs) cG
 |int i =>
  obtain⟨t,rfl⟩:=rx;cases y with
  |cX=>cases ry;exact PySem.EqNone.eq_int_none (bY I q (by simp))
  |int j=>obtain⟨t',rfl⟩:=ry;exact eq_int (bY I q MD)
  |str j=>obtain⟨t',rfl⟩:=ry;exact PySem.EqMixed.eq_int_str (bY I q (by simp))
  |_=>exact absurd (show false=true from hs) cG
 |str i =>
  obtain⟨t,rfl⟩:=rx;cases y with
  |cX=>cases ry;exact PySem.EqNone.eq_str_none (bY I q (by simp))
  |bl j=>cases ry;exact PySem.EqMixed.eq_str_bool (bY I q (by simp))
  |int j=>obtain⟨t',rfl⟩:=ry;exact PySem.EqMixed.eq_str_int (bY I q (by simp))
  |str j=>obtain⟨t',rfl⟩:=ry;exact eq_str (bY I q ME)
  |_=>exact absurd (show false=true from hs) cG
 |L9 i =>
  obtain⟨t,rfl⟩:=rx;cases y with
  |L9 j=>obtain⟨t',rfl⟩:=ry;exact W.eq_bytes (bY I q MF)
  |_=>exact absurd (show false=true from hs) cG
 |_=>cases y<;>exact absurd (show false=true from hs) cG
def rZ:kY X (compareOp .NotEq) rNe:=by
 intro bv s Z H x y v u Q I rx ry h;obtain⟨hs,q⟩:=h;cases x with
 |cX =>
  cases rx;cases y with
  |cX=>cases ry;exact PySem.EqNone.ne_none_none (bY I q (by simp))
  |bl j=>cases ry;exact PySem.EqNone.ne_none_bool (bY I q (by simp))
  |int j=>obtain⟨t',rfl⟩:=ry;exact PySem.EqNone.ne_none_int (bY I q (by simp))
  |str j=>obtain⟨t',rfl⟩:=ry;exact PySem.EqNone.ne_none_str (bY I q (by simp))
  |_=>exact absurd (show false=true from hs) cG
 |bl i =>
  cases rx;cases y with
  |cX=>cases ry;exact PySem.EqNone.ne_bool_none (bY I q (by simp))
  |bl j=>cases ry;exact ne_bool (bY I q (az not O4))
  |str j=>obtain⟨t',rfl⟩:=ry;exact PySem.EqMixed.ne_bool_str (bY I q (by simp))
  |_=>exact absurd (show false=true from hs) cG
 |int i =>
  obtain⟨t,rfl⟩:=rx;cases y with
  |cX=>cases ry;exact PySem.EqNone.ne_int_none (bY I q (by simp))
  |int j=>obtain⟨t',rfl⟩:=ry;exact ne_int (bY I q (az not MD))
  |str j=>obtain⟨t',rfl⟩:=ry;exact PySem.EqMixed.ne_int_str (bY I q (by simp))
  |_=>exact absurd (show false=true from hs) cG
 |str i =>
  obtain⟨t,rfl⟩:=rx;cases y with
  |cX=>cases ry;exact PySem.EqNone.ne_str_none (bY I q (by simp))
  |bl j=>cases ry;exact PySem.EqMixed.ne_str_bool (bY I q (by simp))
  |int j=>obtain⟨t',rfl⟩:=ry;exact PySem.EqMixed.ne_str_int (bY I q (by simp))
  |str j=>obtain⟨t',rfl⟩:=ry;exact ne_str (bY I q (az not ME))
  |_=>exact absurd (show false=true from hs) cG
 |L9 i =>
  obtain⟨t,rfl⟩:=rx;cases y with
  |L9 j=>obtain⟨t',rfl⟩:=ry;exact W.ne_bytes (bY I q (az not MF))
  |_=>exact absurd (show false=true from hs) cG
 |_=>cases y<;>exact absurd (show false=true from hs) cG
def kZ:kY X (compareOp .Lt) (Up λi j=>.bl (decide (i<j))):=R1 λ_ _ _ _ _ _ _ q=>lt_int q
def l9:kY X (compareOp .LtE) (Up λi j=>.bl (decide (i<=j))):=R1 λ_ _ _ _ _ _ _ q=>le_int q
def x6:kY X (compareOp .Gt) (Up λi j=>.bl (decide (j<i))):=R1 λ_ _ _ _ _ _ _ q=>gt_int q
def YM:kY X (compareOp .GtE) (Up λi j=>.bl (decide (j<=i))):=R1 λ_ _ _ _ _ _ _ q=>ge_int q
def ER:kY X (compareOp .Is) (λx y H Q=>y=.cX/\Q (.bl (decide (x=.cX))) H):=by
 intro bv s Z H x y v u Q I rx ry h;obtain⟨rfl,q⟩:=h;cases ry;refine is_none_gen (bY I q ?_);cases x<;>first
  | (cases rx;rfl)
  | (obtain⟨t,rfl⟩:=rx;rfl)
def y9:kY X (compareOp .IsNot) (λx y H Q=>y=.cX/\Q (.bl (!decide (x=.cX))) H):=by
 intro bv s Z H x y v u Q I rx ry h;obtain⟨rfl,q⟩:=h;cases ry;refine isnot_none_gen (bY I q ?_);cases x<;>first
  | (cases rx;rfl)
  | (obtain⟨t,rfl⟩:=rx;rfl)
def iF(b:Expr)(h:op≠.In:=by decide)(h2:op≠.NotIn:=by decide):behindInMarks op b=false:=by
 have e1:(op==CmpOp.In)=false:=by cases op<;>first|rfl|exact absurd rfl h
 have e2:(op==CmpOp.NotIn)=false:=by cases op<;>first|rfl|exact absurd rfl h2
 cases b<;>simp[behindInMarks,e1,e2]
def dY{r:R2}(ho:kY X (compareOp op) r)(ha:PE X a ta)(hb:PE X b tb)(hm:behindInMarks op b=false):PE X (.Compare a [op] [b] pos) (R0 r ta tb):=by intro bv s Z H Q I h;exact wpAny_Compare1 (Vr ha hb I h λv u s2 x y H2 I2 rx ry q=>ho bv s2 Z H2 x y v u Q I2 rx ry q) hm
inductive aB1(x:V)(H:Hp)(Q:Bool->Hp->Prop):Prop
 |mk (k:Bool) (_:x=.bl k) (_:Q k H)
def O5(t:TE):TT:=λZ H Q=>t Z H λx H'=>aB1 x H' Q
def jR{r:R2}(ho:kY X (compareOp op) r)(ha:PE X a ta)(hb:PE X b tb)(hm:behindInMarks op b=false):PT X (.Compare a [op] [b] pos) (O5 (R0 r ta tb)):=by
 intro bv s Z H Q I h;refine wpAny_isTrue_Compare1 (cC (ha bv s Z H _ I h) λv s1 ⟨x,H1,I1,r1,q1⟩=>cC (hb bv s1 Z H1 _ I1 q1) λu s2 ⟨y,H2,I2,r2,q2⟩ =>
  cC (ho bv s2 Z H2 x y v u _ I2 r1 r2 q2) λc s3 ⟨z,H3,I3,r3,k,e,q3⟩=>?_) hm
 subst e;cases r3;exact lu ⟨H3,I3,q3⟩
def O6(r r':R2)(ta tb tc:TE):TE:=λZ H Q=>ta Z H λx H1=>tb Z H1 λy H2=>r x y H2 λz H3=>∃k,z=.bl k /\
 (if k=true then tc Z H3 λw' H4=>r' y w' H4 Q else Q (.bl false) H3)
def uz{r r':R2}(ho:kY X (compareOp op) r)(GJ:kY X (compareOp Vt) r')(ha:PE X a ta)(hb:PE X b tb)(hc:PE X c tc)(hm:lastMarks [op,Vt] [b,c]=false:=by with_unfolding_all rfl):PE X (.Compare a [op,Vt] [b,c] pos) (O6 r r' ta tb tc):=by
 intro bv s Z H Q I h;refine Compare_chain (cC (ha bv s Z H _ I h) λv s1 ⟨x,H1,I1,r1,q1⟩=>chain_link (cC (hb bv s1 Z H1 _ I1 q1) λu s2 ⟨y,H2,I2,r2,q2⟩ =>
  cC (ho bv s2 Z H2 x y v u _ I2 r1 r2 q2) λd s3 ⟨z,H3,I3,r3,k,e,q3⟩=>?_)) hm
 subst e;cases r3;refine lu ?_;cases k with
 |false=>exact ite_ff ⟨.bl false,H3,I3,rfl,q3⟩
 |true=>exact ite_tt (chain_last (cC (hc bv s3 Z H3 _ I3 q3) λw' s4 ⟨z',H4,I4,r4,q4⟩=>GJ bv s4 Z H4 y z' u w' Q I4 r2 r4 q4))
def o5{r r':R2}(ho:kY X (compareOp op) r)(GJ:kY X (compareOp Vt) r')(ha:PE X a ta)(hb:PE X b tb)(hc:PE X c tc)(hm:lastMarks [op,Vt] [b,c]=false:=by with_unfolding_all rfl):PT X (.Compare a [op,Vt] [b,c] pos) (O5 (O6 r r' ta tb tc)):=by
 intro bv s Z H Q I h;refine isTrue_chain (cC (ha bv s Z H _ I h) λv s1 ⟨x,H1,I1,r1,q1⟩=>test_link (cC (hb bv s1 Z H1 _ I1 q1) λu s2 ⟨y,H2,I2,r2,q2⟩ =>
  cC (ho bv s2 Z H2 x y v u _ I2 r1 r2 q2) λd s3 ⟨z,H3,I3,r3,k,e,q3⟩=>?_)) hm
 subst e;cases r3;refine lu ?_;cases k with
 |false =>
  obtain⟨k',e',q'⟩:=q3;cases e';exact ite_ff ⟨H3,I3,q'⟩
 |true =>
  refine ite_tt (test_last (cC (hc bv s3 Z H3 _ I3 q3) λw' s4 ⟨z',H4,I4,r4,q4⟩=>cC (GJ bv s4 Z H4 y z' u w' _ I4 r2 r4 q4) λd' s5 h_=>?_));obtain⟨z2,H5,I5,r5,k2,e2,q5⟩:=h_;subst e2;cases r5;exact lu ⟨H5,I5,q5⟩
def YN(K:Ni)(x:V)(H:Hp)(k:Bool):Prop :=
 match x with
 |.cX=>k=false
 |.bl b=>k=b
 |.int i=>k=(i != 0)
 |.str y=>y.length<=sizeLine/\k=((y.length:Int) != 0)
 |.L9 y=>y.size<=sizeLine/\k=((y.size:Int) != 0)
 |.ref p=>(∃xs,aX K H p xs/\k=!xs.isEmpty)\/(∃xs,bO K H p xs/\k=!xs.isEmpty)\/∃jp,H p=some (.dK jp)/\k=!jp.isEmpty
 |_=>False
def KA{κ:Type}{jp:List (κ×V)}{vs:List (κ×JZ)}(r:KV jp vs):(!vs.isEmpty)=!jp.isEmpty:=by cases r<;>rfl
def AO(r:aq xs aa):(!aa.toArray.isEmpty)=!xs.isEmpty:=by cases r<;>simp
def uA:(sizeLine:Nat)<2 ^ 63:=by rw[jM];decide
def Vu:aBy X (λx H Q=>∃k,YN X.K x H k/\Q k H):=by
 intro bv s Z H x v Q I rx h;obtain⟨k,e,q⟩:=h;have hl:=uA;have hs:sizeLine=16777216:=jM;cases x with
 |cX =>
  cases rx;have e':k=false:=e;subst e';exact truthy_none ⟨H,I,q⟩
 |bl b =>
  cases rx;have e':k=b:=e;subst e';exact lu ⟨H,I,q⟩
 |int i =>
  obtain⟨t,rfl⟩:=rx;have e':k=(i != 0):=e;subst e';exact PySem.P.truthy_int ⟨H,I,q⟩
 |str y =>
  obtain⟨t,rfl⟩:=rx;obtain⟨hy,e'⟩:y.length<=sizeLine/\k=((y.length:Int) != 0):=e;subst e';exact PySem.P.truthy_str (by lia) ⟨H,I.tok _,q⟩
 |L9 y =>
  obtain⟨t,rfl⟩:=rx;obtain⟨hy,e'⟩:y.size<=sizeLine/\k=((y.size:Int) != 0):=e;subst e';exact W.truthy_bytes (by lia) ⟨H,I.tok _,q⟩
 |ref p =>
  cases rx;have e':(∃xs,aX X.K H p xs/\k=!xs.isEmpty)\/(∃xs,bO X.K H p xs/\k=!xs.isEmpty)\/∃jp,H p=some (.dK jp)/\k=!jp.isEmpty:=e;rcases e' with⟨xs,hx,e'⟩|⟨xs,hx,e'⟩|⟨jp,hx,e'⟩
  .subst e';obtain⟨aa,r,pl,hz⟩:=I.list hx;have lc:=r.length;exact wpAny_truthy_list pl.isList (by simp only[bo];lia) ⟨H,I.tok _,by rw[AO r];exact q⟩
  .subst e';obtain⟨aa,r,pl,hz⟩:=I.tuple hx;have lc:=r.length;exact truthy_tuple pl (by simp only[bo];lia) ⟨H,I.tok _,by rw[AO r];exact q⟩
  subst e';obtain⟨hz,hS,vs,r,m⟩:jp.length<=sizeLine/\(p==sysModules)=false/\∃vs,KV jp vs/\s.heap.DictOf (aw X.prog X.w) p vs:=I.cI p _ hx;have lc:jp.length=vs.length:=md r;exact wpAny_truthy_dict hS m (by lia) ⟨H,I.tok _,by rw[KA r];exact q⟩
 |_=>exact(show False from e).elim
def Ga(ha:PE X a ta)(he:∀whole,isTrue a X.env whole=(do let v <- whole;standAt a.pos;holding [v] (truthy v))):
  PT X a (λZ H Q=>ta Z H λx H'=>∃k,YN X.K x H' k/\Q k H'):=by
 intro bv s Z H Q I h;exact isTrue_plain (cC (ha bv s Z H _ I h) λv s1 h_=>by obtain⟨x,H1,I1,r1,q1⟩:=h_;exact Vu bv s1 Z H1 x v Q I1 r1 q1) (he _)
def é{x:V}(r:aq [x] us):∃u,us=[u]/\æ x u:=by
 cases r with
 |cons r1 r2=>cases r2;exact⟨_,rfl,r1⟩
def vals2{x:V}(r:aq [x,y] us):∃u w',us=[u,w']/\æ x u/\æ y w':=by
 cases r with
 |cons r1 r2 =>
  cases r2 with
  |cons r3 r4=>cases r4;exact⟨_,_,rfl,r1,r3⟩
def Cq(hc:X.calm=true):dt X (.builtin "max") (λxs H Q=>∃i j,xs=[.int i,.int j]/\Q (.int (if j>i then j else i)) H):=by
 intro bv s Z H xs us Q I r h;obtain⟨i,j,rfl,q⟩:=h;obtain⟨u,w',rfl,⟨t,rfl⟩,⟨t',rfl⟩⟩:=vals2 r;refine max_two_ints (I.ok.hd hc) λh' tk k=>⟨_,H,I.kept k,?_,q⟩;by_cases hj:j>i
 .rw[aL hj,aL hj];exact⟨_,rfl⟩
 rw[aK hj,aK hj];exact⟨_,rfl⟩
end
structure KC(h:Heap)(x dx C:JY)(mA:Str->Option JZ):Prop where
 obj:h.get? x=some (W.instObj C dx)
 ns:h.Ns1 dx mA
 ne:dx≠x
def NO(n:h.Ns1 dx mA):∃od,h.get? dx=some od/\∀name,W.lookIn name od=some (mA name):=by
 obtain⟨o,es,ep,ho,hd,hk,_,hm⟩:=n;refine⟨o,ho,λname=>?_⟩;have e:=hm name;unfold nsFind findBy at e;rw[<-Array.find?_toList]at e;unfold W.lookIn;rw[hd];dsimp only;split
 .rename_i y q;rw[q]at e;exact az some e
 rename_i q;rw[q]at e;have a:es.toList.any (·.refKey)=false:=by rw[List.any_eq_false];intro y hy;obtain⟨z,t,KD⟩:=hk y (Array.mem_toList_iff.mp hy);simp[DictEntry.refKey,KD]
 have a':¬es.toList.any (·.refKey)=true:=by rw[a];exact cG
 rw[aK a'];exact az some e
def KC.look{x:JY}(I:KC h x dx C mA):∃od,W.InstAt h x (W.instObj C dx) C (some od)/\∀name,W.lookIn name od=some (mA name) :=
 let⟨od,ho,hl⟩:=NO I.ns
 ⟨od,⟨I.obj,rfl,rfl,ho⟩,hl⟩
section
variable{K:Ni}{x f:JY}{v:JZ}
def get_map(X:K.In s.heap)(I:KC s.heap x dx C mA)(hg:W.plainGet K C name=true)(hh:W.hasDictIn K C=true)(ha:W.findIn K (.ref C) name=some none)(hv:mA name=some v)(rf:W.handedIn v=true)(h:Q v {s with toks:=s.toks+1}):
  wpAny (model prog w) A (getAttr (.ref x) name expr) Q E s:=by
 obtain⟨od,J,hl⟩:=I.look;exact W.get_value X J (Jt hg).1 (W.findObj_own hh ha rfl (by rw[hl,hv])) rf h
def O7{Q:JZ×List JZ->JX->Prop}(X:K.In s.heap)(I:KC s.heap x dx C mA)(hg:W.plainGet K C name=true)(hf:W.findIn K (.ref C) name=some (some (.ref f)))(ht:W.isFn K (.ref f)=true)(hv:mA name=none)(h:Q (.ref f,[.ref x]) s):
  wpAny (model prog w) A (getMethod (.ref x) name pl) Q E s:=by
 obtain⟨od,J,hl⟩:=I.look;exact W.method_fn X J (Jt hg).1 (Jt hg).2 hf (fU.mp ht) (by show(W.lookIn name od).map (·.isSome)=some false;rw[hl,hv];rfl) h
def R3{ns:List Str}{Q:Unit->JX->Prop}(X:K.In s.heap)(I:KC s.heap x dx C mA)(hs:W.findIn K (.ref C) "__setattr__"=some (some (.builtin "object.__setattr__")))(hp:W.plainOver K C=true)(ht:W.takerIn K C name=some none)(hh:W.hasDictIn K C=true)(hw:PySem.Within mA ns)(hsz:ns.length<=sizeLine)(h:∀h',KC h' x dx C (λy=>if y=name then some v else mA y)->Heap.SameBut dx s.heap h'->Q () {s with heap:=h',toks:=s.toks+2}):
  wpAny (model prog w) A (setAttr (.ref x) name v) Q E s:=by
 obtain⟨od,J,hl⟩:=I.look;refine W.set_plain X J hs (W.osa_open (s:={s with toks:=s.toks+1}) (r:=none) X J hp ht λb=>?_)
 obtain⟨cd,hc,Bs⟩:=W.any_some hh;have hx:s.heap.get? x=some ⟨.ref C,some dx,.plain,#[]⟩:=I.obj;refine aG (aS (aG (aG (wpAny_loadPart hx (aG (W.Looks.here (s:={s with toks:=s.toks+1}) (W.looks_clsIn X hc) ?_))))));rw[Bs];refine aS (a:=some dx) (aG (aS (aG ?_)));refine wpAny_nsSet1 (s:={s with toks:=s.toks+1}) I.ns λh' hn2 By=>?_
 obtain⟨oD,esD,epD,hoD,hdD,hcD⟩:=hn2.count (PySem.Within.cons name v hw);refine aG (wpAny_lookBehind hoD (by rw[hdD];exact pastItsLine_dict (iA hcD (by rw[cQ];lia))) ?_);exact aS (h _ ⟨(By.2 _ (bS I.ne)).trans I.obj,hn2,I.ne⟩ By)
def O8{vs:List JZ}(X:K.In s.heap)(hm:W.makesIn K C=true)(hi:W.findIn K (.ref C) "__init__"=some (some (.ref f)))(hf:W.typeIn K (.ref f)=some (.type "function"))(h:codeAny (model prog w) (A.under (.builtin "type.__call__" ⟨.ref C::vs,kw⟩)) (.call (.ref f) ⟨.ref (s.heap.objs.size+1)::vs,kw⟩) (W.InitBack (s.heap.objs.size+1) R)
   {s with heap:=(s.heap.push W.emptyDict).push (W.instObj C s.heap.objs.size)}):
  codeAny (model prog w) A (.call (.ref C) ⟨vs,kw⟩) R s:=by
 obtain⟨hh,g,d,t,os⟩:=s;exact W.make_core (W.makes_of X hm) (W.looks_findIn X hi) (λself=>W.bind_fn X self hf) (.inl rfl) h
end
def rG(f:Str)(v:V):List (Str×V)->List (Str×V)
 |[]=>[(f,v)]
 | (g,x)::r=>if g=f then(g,v)::r else(g,x)::rG f v r
def x8(f g:Str)(v:V):∀fs:List (Str×V),(rG f v fs).lookup g=if g=f then some v else fs.lookup g
 |[]=>by
  show List.lookup g [(f,v)]=_;by_cases h:g=f
  .have hb:(g==f)=true:=fU.mpr h;simp only[List.lookup,hb,aL h]
  have hb:(g==f)=false:=tK.mpr h;simp only[List.lookup,hb,aK h]
 | (k,x)::r=>by
  have ih:=x8 f g v r;rw[show rG f v ((k,x)::r)=(if k=f then(k,v)::r else(k,x)::rG f v r)from rfl];by_cases hk:k=f
  .rw[aL hk];by_cases h:g=k
   .have hb:(g==k)=true:=fU.mpr h;simp only[List.lookup,hb,aL (h.trans hk)]
   have hb:(g==k)=false:=tK.mpr h;simp only[List.lookup,hb,aK (λe:g=f=>h (e.trans hk.symm))]
  rw[aK hk];by_cases h:g=k
  .have hb:(g==k)=true:=fU.mpr h;simp only[List.lookup,hb,aK (λe:g=f=>hk (h.symm.trans e))]
  have hb:(g==k)=false:=tK.mpr h;simp only[List.lookup,hb];exact ih
def wy(f:Str)(v:V):∀fs:List (Str×V),f∈(rG f v fs).map (·.1)/\∀g,g∈fs.map (·.1)->g∈(rG f v fs).map (·.1)
 |[]=>⟨by simp[rG],λg h=>by simp at h⟩
 | (k,x)::r=>by
  obtain⟨i1,i2⟩:=wy f v r;rw[show rG f v ((k,x)::r)=(if k=f then(k,v)::r else(k,x)::rG f v r)from rfl];by_cases hk:k=f
  .rw[aL hk];subst hk;exact⟨by simp,λg h=>by simpa using h⟩
  rw[aK hk];refine⟨?_,λg h=>?_⟩
  .rw[bz];exact bU _ i1
  rw[bz]at h ⊢;rcases au.mp h with e|e
  .exact au.mpr (.inl e)
  exact bU _ (i2 g e)
def x9(f:Str)(v:V):∀fs:List (Str×V),(rG f v fs).length<=fs.length+1
 |[]=>by simp[rG]
 | (k,x)::r=>by
  have ih:=x9 f v r;rw[show rG f v ((k,x)::r)=(if k=f then(k,v)::r else(k,x)::rG f v r)from rfl];by_cases hk:k=f
  .rw[aL hk,cQ,cQ];lia
  rw[aK hk,cQ,cQ];lia
def l8.some_of(r:l8 (some v) o):∃u,o=some u/\æ v u:=by
 cases o with
 |none=>exact(show False from r).elim
 |some u=>exact⟨u,rfl,r⟩
def l8.none_of(r:l8 none o):o=none:=by
 cases o with
 |none=>rfl
 |some u=>exact(show False from r).elim
def NP(r:æ v u):W.handedIn u=true:=by
 cases v with
 |cX=>cases(show u=Value.none from r);rfl
 |bl b=>cases(show u=Value.bool b from r);rfl
 |int i=>obtain⟨t,e⟩:=(show ∃t,u=Value.int i t from r);cases e;rfl
 |str x=>obtain⟨t,e⟩:=(show ∃t,u=Value.str x t from r);cases e;rfl
 |L9 b=>obtain⟨t,e⟩:=(show ∃t,u=Value.bytes b t from r);cases e;rfl
 |flt b=>obtain⟨t,e⟩:=(show ∃t,u=Value.float b t from r);cases e;rfl
 |ref a=>cases(show u=Value.ref a from r);rfl
 |ty n=>cases(show u=Value.type n from r);rfl
section
variable{P:Ja}{H':Hp}{h':Heap}
def ES(cI:tZ P w H h)(e:H a=some (.ins C dx fs)):∃mA,KC h a dx C mA/\(∀f,l8 (fs.lookup f) (mA f))/\PySem.Within mA (fs.map (·.1))/\fs.length<=1000/\H dx=some (.own a):=by obtain⟨d,z,ne,ob,mA,n,r,q⟩:=(show cY P w H h a (.ins C dx fs)from cI a _ e);exact⟨mA,⟨ob,n,ne⟩,r,q,z,d⟩
end
structure O9(K:Ni)(C:JY):Prop where
 pg:W.plainGet K C Str.empty=true
 hd:W.hasDictIn K C=true
 po:W.plainOver K C=true
 sa:W.findIn K (.ref C) "__setattr__"=some (some (.builtin "object.__setattr__"))
def O9.get{K:Ni}(c:O9 K C)(f:Str):W.plainGet K C f=true:=c.pg
def mq(K:Ni)(C:JY)(f:Str):Prop:=W.findIn K (.ref C) f=some none
def mq.YO{K:Ni}{f:Str}(n:mq K C f):W.takerIn K C f=some none:=by unfold W.takerIn;rw[show W.findIn K (.ref C) f=some none from n];rfl
structure ET(K:Ni)(C:JY)(m:Str)(f:JY):Prop where
 at_:W.findIn K (.ref C) m=some (some (.ref f))
 fn:W.isFn K (.ref f)=true
 kp:W.keepIn K (.ref f)=true
section
variable{f:Str}
def KE{b:Bool}(I:â X bv Z H s)(e:H a=some (.ins C dx fs))(c:O9 X.K C)(n:mq X.K C f)(l:fs.lookup f=some v)(h:∀u s',â X bv Z H s'->æ v u->Q u s'):wpAny (model X.prog X.w) A (getAttr (.ref a) f b) Q E s:=by obtain⟨mA,O,r,_,_,_⟩:=ES I.cI e;obtain⟨u,hu,ru⟩:=l8.some_of (v:=v) (o:=mA f) (by rw[<-l];exact r f);exact get_map I.MA O (c.get f) c.hd n hu (NP ru) (h u _ (I.tok _) ru)
def AQ{g:JY}{Q:JZ×List JZ->JX->Prop}(I:â X bv Z H s)(e:H a=some (.ins C dx fs))(c:O9 X.K C)(k:ET X.K C m g)(l:fs.lookup m=none)(h:Q (.ref g,[.ref a]) s):wpAny (model X.prog X.w) A (getMethod (.ref a) m pl) Q E s:=by obtain⟨mA,O,r,_,_,_⟩:=ES I.cI e;have hn:mA m=none:=l8.none_of (by rw[<-l];exact r m);exact O7 I.MA O (c.get m) k.at_ k.fn hn h
def KG{Q:Unit->JX->Prop}(I:â X bv Z H s)(e:H a=some (.ins C dx fs))(c:O9 X.K C)(n:mq X.K C f)(hl:fs.length<1000)(ry:æ y u)(h:∀s',â X bv Z (ü H a (.ins C dx (rG f y fs))) s'->Q () s'):wpAny (model X.prog X.w) A (setAttr (.ref a) f u) Q E s:=by
 obtain⟨mA,O,r,wi,_,ho⟩:=ES I.cI e;have hz:(fs.map (·.1)).length<=sizeLine:=by rw[aJ,jM];lia
 refine R3 I.MA O c.sa c.po n.YO c.hd wi hz λh' O' sb=>h _ ?_;have hd:∃o,h'.get? dx=some o:=let⟨o,_,_,e',_⟩:=O'.ns;⟨o,e'⟩;refine I.write (x:=a) (e:=dx) (by rw[e];exact True.intro) (.inr ho) (λb q hb z=>(sb.2 b hb).trans z) hd ?_;refine⟨by rw[aN O.ne];exact ho,?_,O.ne,O'.obj,_,O'.ns,λg=>?_,λg hg=>?_⟩
 .have:=x9 f y fs;lia
 .show l8 ((rG f y fs).lookup g) (if g=f then some u else mA g);rw[x8];by_cases q:g=f
  .rw[aL q,aL q];exact ry
  rw[aK q,aK q];exact r g
 by_cases q:g=f
 .rw[q];exact(wy f y fs).1
 refine(wy f y fs).2 g (wi g λz=>hg ?_);show(if g=f then some u else mA g)=none;rw[aK q];exact z
def â.made(I:â X bv Z H s):â X bv Z (ü (ü H s.heap.objs.size (.own (s.heap.objs.size+1))) (s.heap.objs.size+1) (.ins C s.heap.objs.size []))
  {s with heap:=(s.heap.push W.emptyDict).push (W.instObj C s.heap.objs.size)}:=by
 have e1:(s.heap.push W.emptyDict).get? s.heap.objs.size=some W.emptyDict:=bK s.heap rfl;have e2:((s.heap.push W.emptyDict).push (W.instObj C s.heap.objs.size)).get? (s.heap.objs.size+1)=some (W.instObj C s.heap.objs.size):=by
  have:=bK (s.heap.push W.emptyDict) (o:=W.instObj C s.heap.objs.size) rfl
  rwa [ib]at this
 have e3:(s.heap.push W.emptyDict).Ns s.heap.objs.size (λ_=>none):=⟨W.emptyDict,#[],_,e1,rfl,(λe he=>absurd he (by simp)),λ_=>rfl⟩;have I1:=I.laid (a:=s.heap.objs.size) (o:=.own (s.heap.objs.size+1)) (h':=s.heap.push W.emptyDict) (t':=s.toks) (λb u q=>bG _ q) (ae _) ⟨_,e1⟩;refine I1.laid (a:=s.heap.objs.size+1) (o:=.ins C s.heap.objs.size []) (t':=s.toks) (λb u q=>bG _ q) (AA (ib _ _)) ?_;have ne:s.heap.objs.size≠s.heap.objs.size+1:=cg (om _);refine⟨by rw[aN ne,aB],bt _,ne,e2,λ_=>none,(Heap.Ns1.of_empty e3).at λo q=>bG _ q,λ_=>True.intro,λy hy=>absurd rfl hy⟩
def R4{env:Env}(hb:attributeBase e f env (eval e env)=eval e env)(h:wpAny (model prog w) A (eval e env) (λo s₁=>wpAny (model prog w) A (getAttr o f true) Q E s₁) E s):wpAny (model prog w) A (eval (.Attribute e f pos) env) Q E s :=
 Attribute_any_ h (by rw[arm_eval_Attribute,hb])
end
def YQ(K:Ni)(ta:TE)(f:Str):TE:=λZ H Q=>ta Z H λx H1=>∃a C dx fs v,x=.ref a/\H1 a=some (.ins C dx fs)/\O9 K C/\mq K C f/\fs.lookup f=some v/\Q v H1
def YR(K:Ni)(ta tv:TE)(f:Str):TS:=λD Z H=>tv Z H λy H1=>ta Z H1 λx H2=>∃a C dx fs,x=.ref a/\H2 a=some (.ins C dx fs)/\O9 K C/\mq K C f/\fs.length<1000 /\
 D.nx Z (ü H2 a (.ins C dx (rG f y fs)))
section
variable{o value:Expr}{f:Str}{YS:Pos}{tv:TE}
def Vv(he:PE X e ta)(hb:attributeBase e f X.env (eval e X.env)=eval e X.env):PE X (.Attribute e f pos) (YQ X.K ta f):=by intro bv s Z H Q I h;refine R4 hb (cC (he bv s Z H _ I h) λu s1 h_=>?_);obtain⟨x,H1,I1,rx,a,C,dx,fs,v,ex,ea,c,n,l,q⟩:=h_;subst ex;obtain rfl:u=Value.ref a:=rx;exact KE I1 ea c n l λu' s2 I2 ru=>⟨v,H1,I2,ru,q⟩
def Vw(ha:PE X o ta)(hv:PE X value tv)(hs:swapsWith value (some (.Attribute o f pos')) pos.line X.env=pure false):PS X (.Assign [.Attribute o f pos'] value pos) (YR X.K ta tv f):=by intro bv s Z H D I h;refine plainObj_wpAny_Assign_Attribute (cC (hv bv s Z H _ I h) λu s1 ⟨y,H1,I1,ry,q⟩=>cC (ha bv s1 Z H1 _ I1 q) λov s2 h_=>?_) hs;obtain⟨x,H2,I2,rx,a,C,dx,fs,ex,ea,c,n,l,q2⟩:=h_;subst ex;obtain rfl:ov=Value.ref a:=rx;exact KG I2 ea c n l ry λs3 I3=>⟨Z,_,I3,q2⟩
end
section
variable{c:JZ}{b:Bool}
end
structure fY(k:Nat)(A:Jd):Prop where
 hd:A.handled=none
 dp:A.depth+3*k+5<recursionLimit
 un:A.units+16*k+200<cLine
def fY.mono{j:Nat}(r:fY k A)(h:j<=k):fY j A:=⟨r.hd,by have:=r.dp;lia,by have:=r.un;lia⟩
def fY.deeper{k:Nat}{A:Jd}(r:fY (k+1) A)(env:Env):fY k (A.deeper env) :=
 ⟨r.hd,by have:=r.dp;show A.depth+1+3*k+5<_;lia,by have:=r.un;show A.units+3+16*k+200<_;lia⟩
def KH:(A.under (.builtin "type.__call__" ⟨.ref C::us,kw⟩)).depth=A.depth+1:=by
 first|rfl|simp[Around.under,Code.weight,Code.isCreation,Code.isGuard,Code.isCaller,Code.frames,Code.isFrame,guardIds]
def KI:(A.under (.builtin "type.__call__" ⟨.ref C::us,kw⟩)).units=A.units+1:=by
 first|rfl|simp[Around.under,Code.cUnits,Code.frames,Code.isFrame]
def fY.make(r:fY (k+1) A)(C:JY)(us:List JZ)(kw:List (Str×JZ)):fY k (A.under (.builtin "type.__call__" ⟨.ref C::us,kw⟩)) :=
 ⟨r.hd,by have:=r.dp;rw[KH];lia,by have:=r.un;rw[KI];lia⟩
def fY.depth{k:Nat}{A:Jd}(r:fY k A):A.depth<recursionLimit:=by have:=r.dp;lia
def fY.units{k:Nat}{A:Jd}(r:fY k A):A.units+64<cLine:=by have:=r.un;lia
def PB:TA:=λ_ H Q=>Q [] H
def Uq(ta:TE)(tr:TA):TA:=λZ H Q=>ta Z H λx H1=>tr Z H1 λxs H2=>Q (x::xs) H2
section
variable{t:TA}
def aD:PA X [] PB:=λ_ _ _ _ H Q I h=>D6 ⟨[],H,I,.nil,h⟩
def aA(ha:PE X e te)(hr:PA X es t)(hs:starEach (e::es) X.env=(false,eval e X.env)::starEach es X.env:=by rfl):PA X (e::es) (Uq te t):=by intro pos bv s Z H Q I h;rw[hs];show wpAny _ _ (spliced ((false,eval e X.env)::backTo pos (starEach es X.env))) _ _ s;refine zk (cC (ha bv s Z H _ I h) λu s1 h_=>?_);obtain⟨x,H1,I1,r1,q1⟩:=h_;exact cC (hr pos bv s1 Z H1 _ I1 q1) λus s2 h_=>by obtain⟨xs,H2,I2,r2,q2⟩:=h_;exact⟨x::xs,H2,I2,.cons r1 r2,q2⟩
def aB2(t:TA):TE:=λZ H Q=>t Z H λxs H1=>xs.length<=sizeLine/\∀p,H1 p=none->Q (.ref p) (ü H1 p (.tup xs))
def aB3(t:TA):TE:=λZ H Q=>t Z H λxs H1=>xs.length<=sizeLine/\∀p,H1 p=none->Q (.ref p) (ü H1 p (.lst xs))
def c5{x1}(h:PA X es t):PE X (.Tuple es x1 pos) (aB2 t):=by intro bv s Z H Q I hq;refine wpAny_Tuple_spliced (cC (h pos bv s Z H _ I hq) λus s1 ⟨xs,H1,I1,r,z,q⟩=>⟨by rw[<-r.length];exact z,?_⟩);have hf:H1 s1.heap.objs.size=none:=I1.cI.fresh (ae _);refine⟨.ref s1.heap.objs.size,ü H1 s1.heap.objs.size (.tup xs),I1.laid (t':=s1.toks) (λb u e=>bG _ e) (ae _) ?_,rfl,q _ hf⟩;exact⟨z,us,r,⟨_,bK _ rfl,rfl,_,rfl⟩⟩
def bJ(h:PA X es t):PE X (.List es pos) (aB3 t):=by intro bv s Z H Q I hq;refine wpAny_List_spliced (cC (h pos bv s Z H _ I hq) λus s1 ⟨xs,H1,I1,r,z,q⟩=>⟨by rw[<-r.length];exact z,?_⟩);have hf:H1 s1.heap.objs.size=none:=I1.cI.fresh (ae _);refine⟨.ref s1.heap.objs.size,ü H1 s1.heap.objs.size (.lst xs),I1.laid (t':=s1.toks) (λb u e=>bG _ e) (ae _) ?_,rfl,q _ hf⟩;exact⟨z,us,0,r,bK _ rfl⟩
end
abbrev Sp:=List V->Hp->VK->XK->Prop
abbrev KJ:=List Env->Hp->JX->XK->JZ->JX->Prop
structure KL(P:Ja)(w:Jb)(K:Ni)(mg:Str->Option JZ)(à:Heap)(A:Jd)(á:List Env)(s:JX)(H:Hp):Prop where
 frames:A.frames=some á
 mod:Mod K mg à
 bs:∀b o,à.get? b=some o->s.heap.get? b=some o/\H b=none
 Ry:à.objs.size<=s.heap.objs.size
 yZ:s.heap.FunFrames à á
 Vf:∀b∈NL á,H b=none
 cI:tZ P w H s.heap
 bare:AllBare s.gens
def CE(á:List Env)(P:Ja)(w:Jb)(H:Hp)(s:JX)(Q:VK)(u:JZ)(s':JX):Prop :=
 ∃v H',s'.os=s.os/\AllBare s'.gens/\Un (NL á) [] H H' s.heap s'.heap/\tZ P w H' s'.heap/\æ v u/\Q v H'
def CR(CX:KJ)(á:List Env)(P:Ja)(w:Jb)(H:Hp)(s:JX)(Q:VK)(E:XK)(r:Result)(s':JX):Prop :=
 match r with
 |.ok (.ret u)=>CE á P w H s Q u s'
 |.ok _=>False
 |.error e=>CX á H s E e s'
structure cn(P:Ja)(w:Jb)(K:Ni)(mg:Str->Option JZ)(à:Heap)(CX:KJ)(k:Nat)(f:JY)(fd:Jc)(ps:List Str)(sp:Sp):Prop where
 len:∀vs H Q E,sp vs H Q E->vs.length=ps.length
 run:∀(A:Jd)(á:List Env)(s:JX)(H:Hp)(args:Args)(us:List JZ)(vs:List V)(Q:VK)(E:XK),fY k A->KL P w K mg à A á s H->BindsTo s fd args (ps.zip us)->aq vs us->sp vs H Q E ->
  codeAny (model P w) A (.call (.ref f) args) (CR CX á P w H s Q E) s
def cn.mono{P:Ja}{w:Jb}{K:Ni}{mg:Str->Option JZ}{à:Heap}{CX:KJ}{j k:Nat}{f:JY}{fd:Jc}{ps:List Str}{sp:Sp}(F:cn P w K mg à CX j f fd ps sp)(h:j<=k):
  cn P w K mg à CX k f fd ps sp:=⟨F.len,λA á s H args us vs Q E hr=>F.run A á s H args us vs Q E (hr.mono h)⟩
def KL.make{P:Ja}{K:Ni}(e:KL P w K mg à A á s H)(C:JY)(us:List JZ)(kw:List (Str×JZ)):
  KL P w K mg à (A.under (.builtin "type.__call__" ⟨.ref C::us,kw⟩)) á s H:=⟨by first|exact e.frames|(simpa[Around.under,Code.envs,Code.isFrame,pushEnvs]using e.frames),e.mod,e.bs,e.Ry,e.yZ,e.Vf,e.cI,e.bare⟩
section
variable{s':JX}
def â.YT(I:â X bv Z H s):KL X.prog X.w X.K X.mg X.à X.A X.stack s H :=
 ⟨I.ok.frames,I.ok.mod,I.bs,iA I.ok.Ry I.sz,I.stack,I.MB,I.cI,I.bare⟩
def â.after{Q:VK}(I:â X bv Z H s)(h:CE X.stack X.prog X.w H s Q u s'):EP X bv Z Q u s':=by obtain⟨v,H',os,bare,un,cI,r,q⟩:=h;obtain⟨hh,g,d,t,os'⟩:=s';obtain rfl:os'=s.os:=os;exact⟨v,H',I.call (h':=hh) (g':=g) (d':=d) (t':=t) (ch:=[]) un cI bare (λb z=>absurd z (by simp)),r,q⟩
end
def PD(sp:Sp)(Bu:List V)(E:XK)(t:TA):TE:=λZ H Q=>t Z H λvs H1=>sp (vs++Bu) H1 Q E
def Ur(C:JY)(m:Str)(sp:Sp)(Bu:List V)(E:XK)(ta:TE)(t:TA):TE:=λZ H Q=>ta Z H λx H1=>∃a dx fs,x=.ref a/\H1 a=some (.ins C dx fs)/\fs.lookup m=none /\
 t Z H1 λvs H2=>sp (x::(vs++Bu)) H2 Q E
def YU(C:JY)(sp:Sp)(Bu:List V)(E:XK)(t:TA):TE:=λZ H Q=>t Z H λvs H1=>∀x dx,H1 x=none->H1 dx=none->dx≠x ->
 sp (.ref x::(vs++Bu)) (ü (ü H1 dx (.own x)) x (.ins C dx [])) (λv H2=>v=.cX/\Q (.ref x) H2) E
def ú(K:Ni)(fd:Jc)(ps:List Str)(ds:List JZ):Prop :=
 ∀(s:JX)(us:List JZ),K.In s.heap->(us++ds).length=ps.length->BindsTo s fd ⟨us,[]⟩ (ps.zip (us++ds))
def ú.all{K:Ni}(h:∀us:List JZ,us.length=ps.length->bindArgs fd ⟨us,[]⟩=pure (ps.zip us)):ú K fd ps []:=λs us _ hl=>by rw[tT]at hl ⊢;exact .of_eq (h us hl)
def o6(CX:KJ)(X:Cx)(E:XK):Prop:=∀(bv:List (JY×Obj))(Z:St)(H:Hp)(s:JX)(e:JZ)(s':JX),â X bv Z H s->CX X.stack H s E e s'->X.xe e s'
section
variable{CX:KJ}{f:JY}{sp:Sp}{E:XK}{o:Expr}{t:TA}
def KN{Q:VK}(F:cn X.prog X.w X.K X.mg X.à CX k f fd ps sp)(hr:fY k X.A)(hb:ú X.K fd ps ds)(hd:aq Bu ds)(hx:o6 CX X E)(I:â X bv Z H s)(r:aq vs us)(h:sp (vs++Bu) H Q E):wX X (call (.ref f) us) (EP X bv Z Q) X.xe s:=by
 have r2:aq (vs++Bu) (us++ds):=r.append hd;have hl:(us++ds).length=ps.length:=by rw[<-r2.length];exact F.len _ _ _ _ h
 refine wpAny_call (jv (F.run X.A X.stack s H ⟨us,[]⟩ (us++ds) (vs++Bu) Q E hr I.YT (hb s us I.MA hl) r2 h) λr s' hq=>?_);cases r with
 |error e=>exact hx bv Z H s e s' I hq
 |ok fl =>
  cases fl with
  |ret u=>exact I.after hq
  |next=>exact False.elim hq
  |brk=>exact False.elim hq
  |cont=>exact False.elim hq
def R5(F:cn X.prog X.w X.K X.mg X.à CX k f fd ps sp)(hr:fY k X.A)(hg:Gl X x)(hm:X.mg x=some (.ref f))(hk:W.keepIn X.K (.ref f)=true)(hb:ú X.K fd ps ds)(hd:aq Bu ds)(hx:o6 CX X E)(ha:PA X (e::es) t)(PF:(x==("__debug__":Str))=false:=by decide)(he:starEach (e::es) X.env=(false,eval e X.env)::starEach es X.env:=by rfl)(GL:(backTo pos (starEach es X.env)).any (·.1)=false:=by rfl):
  PE X (.Call (.Name x p) (e::es) [] pos) (PD sp Bu E t):=by
 intro bv s Z H Q I h;refine oj (EL I hg hm ?_ PF);refine W.callWith_K (h₀:=X.à) I.ok.mod.Uj hk (cC (ha pos bv s Z H _ I h) λus s1 ⟨vs,H1,I1,r,q⟩=>⟨I1.MA,?_⟩) he GL;exact KN F hr hb hd hx I1 r q
def mr(he:PE X o ta)(c:O9 X.K C)(hm:ET X.K C m f)(F:cn X.prog X.w X.K X.mg X.à CX k f fd ps sp)(hr:fY k X.A)(hb:ú X.K fd ps ds)(hd:aq Bu ds)(hx:o6 CX X E)(ha:PA X (e::es) t)(Bt:starEach (e::es) X.env=(false,eval e X.env)::starEach es X.env:=by rfl)(GL:(backTo pos (starEach es X.env)).any (·.1)=false:=by rfl)(ht:eval (.Call (.Attribute o m apos) (e::es) [] pos) X.env=(do
   let ov <- eval o X.env
   standAt apos.atName
   let(f,first) <- holding [ov] (getMethod ov m pl)
   callWith pos f first (backTo pos (starEach (e::es) X.env)) (backToKw pos (keywordEach [] X.env))):=by rfl):
  PE X (.Call (.Attribute o m apos) (e::es) [] pos) (Ur C m sp Bu E ta t):=by
 intro bv s Z H Q I h;refine W.methodCall_KW (pl:=pl) (cC (he bv s Z H _ I h) λu s1 h_=>?_) ht;obtain⟨x,H1,I1,rx,a,dx,fs,ex,ea,l,q⟩:=h_;subst ex;obtain rfl:u=Value.ref a:=rx;refine AQ I1 ea c hm l ?_;refine W.callWith_K (first:=[.ref a]) (h₀:=X.à) I.ok.mod.Uj hm.kp (cC (ha pos bv s1 Z H1 _ I1 q) λus s2 ⟨vs,H2,I2,r,q2⟩=>⟨I2.MA,?_⟩) Bt GL;exact KN (us:=.ref a::us) (vs:=.ref a::vs) F hr hb hd hx I2 (.cons rfl r) q2
def dv(he:PE X o ta)(c:O9 X.K C)(hm:ET X.K C m f)(F:cn X.prog X.w X.K X.mg X.à CX k f fd ps sp)(hr:fY k X.A)(hb:ú X.K fd ps ds)(hd:aq Bu ds)(hx:o6 CX X E)(ht:eval (.Call (.Attribute o m apos) [] [] pos) X.env=(do
   let ov <- eval o X.env
   standAt apos.atName
   let(f,first) <- holding [ov] (getMethod ov m pl)
   callWith pos f first (backTo pos (starEach [] X.env)) (backToKw pos (keywordEach [] X.env))):=by rfl):
  PE X (.Call (.Attribute o m apos) [] [] pos) (Ur C m sp Bu E ta PB):=by
 intro bv s Z H Q I h;refine W.methodCall_KW (pl:=pl) (cC (he bv s Z H _ I h) λu s1 h_=>?_) ht;obtain⟨x,H1,I1,rx,a,dx,fs,ex,ea,l,q⟩:=h_;subst ex;obtain rfl:u=Value.ref a:=rx;refine AQ I1 ea c hm l ?_;exact W.callWith_K0 (first:=[.ref a]) I1.MA hm.kp (KN (us:=[.ref a]) (vs:=[.ref a]) F hr hb hd hx I1 (.cons rfl .nil) q)
structure Mk(K:Ni)(C f:JY):Prop where
 makes:W.makesIn K C=true
 init:W.findIn K (.ref C) "__init__"=some (some (.ref f))
 fn:W.isFn K (.ref f)=true
 kp:W.keepIn K (.ref C)=true
def PH{Q:VK}(M:Mk X.K C f)(F:cn X.prog X.w X.K X.mg X.à CX k f fd ps sp)(hr:fY (k+1) X.A)(hb:ú X.K fd ps ds)(hd:aq Bu ds)(hx:o6 CX X E)(I:â X bv Z H s)(r:aq vs us)(h:∀x dx,H x=none->H dx=none->dx≠x->sp (.ref x::(vs++Bu)) (ü (ü H dx (.own x)) x (.ins C dx [])) (λv H2=>v=.cX/\Q (.ref x) H2) E):
  wX X (call (.ref C) us) (EP X bv Z Q) X.xe s:=by
 have hq:=h (s.heap.objs.size+1) s.heap.objs.size (I.cI.fresh (gq _)) (I.cI.fresh (ae _)) (cg (om _));have I2:=â.made (C:=C) I;have r2:aq (V.ref (s.heap.objs.size+1)::(vs++Bu)) (Value.ref (s.heap.objs.size+1)::(us++ds)):=.cons rfl (r.append hd);have hl:(Value.ref (s.heap.objs.size+1)::us++ds).length=ps.length:=by have e:=r2.length;rw[F.len _ _ _ _ hq]at e;exact e.symm
 refine wpAny_call (O8 (f:=f) I.MA M.makes M.init (fU.mp M.fn) (jv (F.run _ X.stack _ _ ⟨Value.ref (s.heap.objs.size+1)::us,[]⟩ (Value.ref (s.heap.objs.size+1)::(us++ds)) _ _ E (hr.make C us [])
  (I2.YT.make C us []) (hb _ (Value.ref (s.heap.objs.size+1)::us) I2.MA hl) r2 hq) λr s' Vx=>?_))
 cases r with
 |error e=>exact hx bv Z _ _ e s' I2 Vx
 |ok fl =>
  cases fl with
  |ret u =>
   obtain⟨v,H',I3,rv,ev,q3⟩:=I2.after Vx;subst ev;exact⟨rv,⟨V.ref (s.heap.objs.size+1),H',I3,rfl,q3⟩⟩
  |next=>exact False.elim Vx
  |brk=>exact False.elim Vx
  |cont=>exact False.elim Vx
def u3(M:Mk X.K C f)(F:cn X.prog X.w X.K X.mg X.à CX k f fd ps sp)(hr:fY (k+1) X.A)(hg:Gl X x)(hm:X.mg x=some (.ref C))(hb:ú X.K fd ps ds)(hd:aq Bu ds)(hx:o6 CX X E)(PF:(x==("__debug__":Str))=false:=by decide):PE X (.Call (.Name x p) [] [] pos) (YU C sp Bu E PB):=by intro bv s Z H Q I h;refine oj (EL I hg hm ?_ PF);exact W.callWith_K0 I.MA M.kp (PH (us:=[]) M F hr hb hd hx I .nil h)
end
section
variable{CX:KJ}{f:JY}{ks:List Str}{sp:Sp}{E:XK}{aB5:Pos}{o:Expr}{t tk:TA}
end
structure aM(N P:List Str)(sc:Scope):Prop where
 kind:sc.kind=.function
 co:sc.isCoroutine=false
 gen:sc.isGenerator=false
 nd:N.Nodup
 pre:N.take P.length=P
 par:∀x∈P,sc.names.lookup x=some .local\/sc.names.lookup x=some .cell
 Vy:∀y∈sc.names,y.2≠.free
def Cr{kindOf:Str->Option NameKind}{x:Str}:∀{binds:List (Str×JZ)}{m:Str->Option JZ},(∀v,(x,v)∉binds)->bindL kindOf binds m x=m x
 |[],_,_=>rfl
 | (n,v)::r,m,h=>by
  unfold bindL;rw[Cr λw hw=>h w (bU _ hw)];split
  .have:x≠n:=(by rintro rfl;exact h v bp);simp[this]
  rfl
def Cs{kindOf:Str->Option NameKind}{x:Str}:∀{binds:List (Str×JZ)}{m:Str->Option JZ},(∀v,(x,v)∉binds)->bindC kindOf binds m x=m x
 |[],_,_=>rfl
 | (n,v)::r,m,h=>by
  unfold bindC;rw[Cs λw hw=>h w (bU _ hw)];split
  .rfl
  have:x≠n:=by rintro rfl;exact h v bp
  simp[this]
def Ct{kindOf:Str->Option NameKind}{x:Str}{v:JZ}:∀{P:List Str}{vs:List JZ}{i:Nat}{m:Str->Option JZ},P.Nodup->P[i]?=some x->vs[i]?=some v->kindOf x=some .local ->
  bindL kindOf (P.zip vs) m x=some v
 |[],_,_,_,_,h,_,_=>by simp at h
 |_::_,[],_,_,_,_,h,_=>by simp at h
 |p::P,w::vs,0,m,nd,h1,h2,hk=>by simp at h1 h2;subst h1;subst h2;show bindL kindOf ((p,w)::P.zip vs) m p=_;unfold bindL;rw[Cr λv hv=>(ic.mp nd).1 (List.of_mem_zip hv).1,aL hk];simp
 |p::P,w::vs,i+1,m,nd,h1,h2,hk=>by show bindL kindOf ((p,w)::P.zip vs) m x=_;unfold bindL;exact Ct (i:=i) (ic.mp nd).2 (by simpa using h1) (by simpa using h2) hk
def Cu{kindOf:Str->Option NameKind}{x:Str}{v:JZ}:∀{P:List Str}{vs:List JZ}{i:Nat}{m:Str->Option JZ},P.Nodup->P[i]?=some x->vs[i]?=some v->kindOf x≠some .local ->
  bindC kindOf (P.zip vs) m x=some v
 |[],_,_,_,_,h,_,_=>by simp at h
 |_::_,[],_,_,_,_,h,_=>by simp at h
 |p::P,w::vs,0,m,nd,h1,h2,hk=>by simp at h1 h2;subst h1;subst h2;show bindC kindOf ((p,w)::P.zip vs) m p=_;unfold bindC;rw[Cs λv hv=>(ic.mp nd).1 (List.of_mem_zip hv).1,aK hk];simp
 |p::P,w::vs,i+1,m,nd,h1,h2,hk=>by show bindC kindOf ((p,w)::P.zip vs) m x=_;unfold bindC;exact Cu (i:=i) (ic.mp nd).2 (by simpa using h1) (by simpa using h2) hk
def start(N:List Str)(vs:List V):St:=vs.map some++List.replicate (N.length-vs.length) none
def NQ(CX:KJ)(P:Ja)(w:Jb)(K:Ni)(mg:Str->Option JZ)(à:Heap)(N:List Str)(qual:Str)(scope:Scope)(f:JY)(cd:JZ)(A:Jd)(á:List Env)(s:JX)(H:Hp)(E:XK):Cx where
 prog:=P
 w:=w
 K:=K
 mg:=mg
 à:=à
 A:=A.deeper (envOfC qual scope s.heap.objs.size f cd)
 N:=N
 s₀:=s
 H₀:=H
 env:=envOfC qual scope s.heap.objs.size f cd
 á:=á
 stack:=envOfC qual scope s.heap.objs.size f cd::á
 ex:=[]
 calm:=true
 fn:=λ_=>true
 pn:=[]
 xe:=λe s'=>wpAny (model P w) (A.deeper (envOfC qual scope s.heap.objs.size f cd)) (leaving (envOfC qual scope s.heap.objs.size f cd) e) (λ_ s''=>CX á H s E e s'') (λe' s''=>CX á H s E e' s'') s'
def Gb{sc:Scope}(h:sc.names.lookup x=some .cell):∃c,(cellsFrom n sc.names []).lookup x=some c:=by have q:=W.cellsFrom_some sc.names n [] (.inl h);exact Option.isSome_iff_exists.mp q
def NR{CX:KJ}{P:Ja}{K:Ni}{f:JY}{cd:JZ}{s1:JX}{E:XK}(S:aM N ps scope)(hd:A.handled=none)(e0:KL P w K mg à A á s H)(hl:vs.length=ps.length)(r:aq vs us)(x:InCallC s s.heap.objs.size (bindL (envOfC qual scope s.heap.objs.size f cd).kindOf (ps.zip us) λ_=>none) (cellsFrom (s.heap.objs.size+1) scope.names []) (bindC (envOfC qual scope s.heap.objs.size f cd).kindOf (ps.zip us) λ_=>none) s1):
  â (NQ CX P w K mg à N qual scope f cd A á s H E) [] (start N vs) H s1:=by
 have GL:ps.length<=N.length:=by have:=az List.length S.pre;rw[cc]at this;lia
 obtain⟨h1,tk,rfl,hk⟩:=x.done;have YV:∀b:JY,b∉(NQ CX P w K mg à N qual scope f cd A á s H E).ex:=λb z=>absurd (show b∈([]:List JY)from z) (by simp);refine⟨⟨e0.mod,S.kind,rfl,rfl,ae _,λy z c h1 h2=>?_,λy hy=>?_,λy c _ h=>?_,λ_=>hd,Around.frames_deeper e0.frames,.inr ⟨rfl,rfl⟩,λb z=>absurd z (YV b),e0.bs,e0.Ry,λb _ _=>YV b,λb z=>absurd z (YV b),e0.yZ,e0.Vf⟩,
  rfl,e0.bare,Un.kept hk,⟨_,x.toInCall.ns,λi y v h1 h2 h3=>?_⟩,λy c h=>⟨_,x.cell y c h⟩,e0.cI.fresh (ae _),λy c h=>?_,λp hp=>absurd (show p∈([]:List (JY×Obj))from hp) (by simp),e0.cI.kept hk,?_⟩
 .exact name_of_addr x.apart (tL h1) (tL h2)
 .have hy:scope.names.lookup y=some .cell\/scope.names.lookup y=some .free:=hy;rcases hy with hy|hy
  .exact Gb hy
  exact absurd rfl (S.Vy _ (tL hy))
 .exact gT (x.above y c (tL h))
 .have hi:i<vs.length:=by
   unfold start at h2;by_cases hi:i<vs.length
   .exact hi
   rw[zX (by simpa using hi)]at h2;rw[List.getElem?_replicate]at h2;split at h2<;>cases h2
  have ha:vs[i]?=some v:=by
   unfold start at h2;rw[wO (by simpa using hi),bh]at h2;cases e:vs[i]? with
   |none=>rw[e]at h2;cases h2
   |some a=>rw[e]at h2;cases h2;rfl
  obtain⟨u,hu,rv⟩:=r.get ha;have hp:ps[i]?=some y:=by rw[<-S.pre,aAn (by lia)];exact h1
  have ndP:ps.Nodup:=by rw[<-S.pre];exact S.nd.sublist (List.take_sublist _ _)
  refine⟨u,rv,?_⟩;rcases S.par y (bL hp)with k|k
  .exact .inl ⟨k,Ct ndP hp hu k⟩
  obtain⟨c,e⟩:=Gb (n:=s.heap.objs.size+1) k;refine .inr ⟨.inl k,c,e,?_⟩;have q:=x.cell y c e;rw[Cu ndP hp hu (by show scope.names.lookup y≠_;rw[k];decide)]at q;exact q
 .exact e0.cI.fresh (gT (x.above y c (tL h)))
 unfold start;show _=N.length;rw[bV,aJ,Jl];lia
def MG{CX:KJ}{P:Ja}{K:Ni}{f:JY}{dV kV doc pm bM ct oc:JZ}{an od:Option JY}{sp:Sp}(lk:K.lookup f=some ⟨oc,od,.func (W.fnOf name qual params body scope dV kV doc pm an bM ct),GN⟩)(Cn:W.codeIn K bM qual=true)(S:aM N ps scope)(len:∀vs H Q E,sp vs H Q E->vs.length=ps.length)(o7:∀(A:Jd)(á:List Env)(s:JX)(H:Hp)(vs:List V)(Q:VK)(E:XK),fY k (A.deeper (envOfC qual scope s.heap.objs.size f bM))->sp vs H Q E ->
   ∃t,JP (NQ CX P w K mg à N qual scope f bM A á s H E) body t/\t {nx:=λ_ H'=>Q .cX H',rt:=Q} (start N vs) H):
  cn P w K mg à CX (k+1) f (W.fnOf name qual params body scope dV kV doc pm an bM ct) ps sp:=by
 refine⟨len,λA á s H args us vs Q E hr e0 hb r MH=>?_⟩;have hl:=len _ _ _ _ MH;have KX:K.In s.heap:=e0.mod.Uj.keeps λb o e=>(e0.bs b o e).1;have lim:s.heap.NoLimit:=e0.mod.nolimit.keeps λb o e=>(e0.bs b o e).1;have YW:∀y∈ps.zip us,scope.names.lookup y.1=some .local\/(scope.names.lookup y.1=some .cell/\((cellsFrom (s.heap.objs.size+1) scope.names []).lookup y.1).isSome=true):=λ⟨n,v⟩ hy=>by
  rcases S.par n (List.of_mem_zip hy).1 with q|q
  .exact .inl q
  exact .inr ⟨q,W.cellsFrom_some _ _ _ (.inl q)⟩
 refine codeAny_call_function hr.depth (KX _ _ lk) rfl S.co S.gen rfl (W.codeRec_of KX Cn) (hb _ _ _ _ ?_);refine wpAny_newFunctionEnv_cells S.kind YW λenv he s1 x=>?_;subst he;refine⟨lim.keeps x.toInCall.keep,codeAny_func ?_⟩;obtain⟨t,ht,hq⟩:=o7 A á s H vs Q E (hr.deeper _) MH;have I:â (NQ CX P w K mg à N qual scope f bM A á s H E) [] (start N vs) H s1:=NR S hr.hd e0 hl r x;refine gW (ht [] s1 (start N vs) H _ I hq) (λfl s' hs=>?_) λe s' hs=>hs;have fin:∀{Z':St}{H':Hp}{v:V}{u:JZ},â (NQ CX P w K mg à N qual scope f bM A á s H E) [] Z' H' s'->æ v u->Q v H'->CE á P w H s Q u s' :=
  λ{Z' H' v u} J rv q=>⟨v,H',J.os,J.bare,J.à,J.cI,rv,q⟩
 cases fl with
 |ret u =>
  obtain⟨v,Z',H',J,rv,q⟩:=hs;exact fin J rv q
 |next =>
  obtain⟨Z',H',J,q⟩:=hs;exact fin (v:=V.cX) (u:=Value.none) J rfl q
 |brk =>
  obtain⟨_,_,_,q⟩:=hs;exact False.elim q
 |cont =>
  obtain⟨_,_,_,q⟩:=hs;exact False.elim q
section
variable{t:TA}{id T:String}
def tCB(r:List V->Hp->VK->Prop)(t:TA):TE:=λZ H Q=>t Z H λvs H1=>r vs H1 Q
def bW(hc:dt X (.builtin id) r)(hg:Gl X x)(hm:X.mg x=none)(hv:bootBuiltins x=some (.builtin id))(ha:PA X (e::es) t)(hn:x≠"__name__":=by decide)(PF:(x==("__debug__":Str))=false:=by decide)(he:starEach (e::es) X.env=(false,eval e X.env)::starEach es X.env:=by rfl)(GL:(backTo pos (starEach es X.env)).any (·.1)=false:=by rfl):PE X (.Call (.Name x p) (e::es) [] pos) (tCB r t):=by intro bv s Z H Q I h;refine oj (mh I hg hm hv ?_ hn PF);exact PyProof.Rows.callWith_builtin1 (cC (ha pos bv s Z H _ I h) λus s1 h_=>by obtain⟨vs,H1,I1,r1,q1⟩:=h_;exact hc bv s1 Z H1 vs us Q I1 r1 q1) he GL
def av(hc:dt X (.type T) r)(hg:Gl X x)(hm:X.mg x=none)(hv:bootBuiltins x=some (.type T))(ha:PA X (e::es) t)(hn:x≠"__name__":=by decide)(PF:(x==("__debug__":Str))=false:=by decide)(he:starEach (e::es) X.env=(false,eval e X.env)::starEach es X.env:=by rfl)(GL:(backTo pos (starEach es X.env)).any (·.1)=false:=by rfl):PE X (.Call (.Name x p) (e::es) [] pos) (tCB r t):=by intro bv s Z H Q I h;refine oj (mh I hg hm hv ?_ hn PF);exact xq (cC (ha pos bv s Z H _ I h) λus s1 h_=>by obtain⟨vs,H1,I1,r1,q1⟩:=h_;exact hc bv s1 Z H1 vs us Q I1 r1 q1) he GL
end
end L2
namespace HT
open PySem PyProof.Rows
section
open PySem.SeqAt
open PySem.AutoSeq1 (wpAny_loadPart')
open PySem.MeetsSeq PySem.MeetsSeq2 PySem.MeetsSeq3
end
section
variable{prog:Ja}{w:Jb}{A:Jd}{E:JZ->JX->Prop}{s:JX}
def iP(n d:Nat):Option Int->Nat
 |none=>d
 |some v=>if v<0 then(v+(n:Int)).toNat else min v.toNat n
def u4(n d:Nat):iP n d none=d:=rfl
def iQ(n d k:Nat):iP n d (some (k:Int))=min k n:=by show(if(k:Int)<0 then((k:Int)+(n:Int)).toNat else min (k:Int).toNat n)=min k n;rw[aK (by lia),dh]
def Vz(n d:Nat)(hd:d<=n)(o:Option Int):iP n d o<=n:=by
 cases o with
 |none=>exact hd
 |some v =>
  show(if v<0 then(v+(n:Int)).toNat else min v.toNat n)<=n;by_cases hv:v<0
  .rw[aL hv];lia
  rw[aK hv];exact Nat.min_le_right _ _
def MI(v:Int)(n d:Nat):(if v<0 then max (v+(n:Int)) 0 else min v (n:Int))=((iP n d (some v):Nat):Int):=by
 show(if v<0 then max (v+(n:Int)) 0 else min v (n:Int))=(((if v<0 then(v+(n:Int)).toNat else min v.toNat n):Nat):Int);by_cases hv:v<0
 .simp only[aL hv];lia
 simp only[aK hv];lia
def KO(lo hi:Option Int)(n:Nat):Builtin.Slice.sliceAdjust lo hi 1 (n:Int)=(((iP n 0 lo:Nat):Int),((iP n n hi:Nat):Int)):=by
 have h1:¬((1:Int)<0):=by lia
 unfold Builtin.Slice.sliceAdjust;simp only[h1,cm];refine Prod.ext ?_ ?_
 .cases lo with
  |none=>rfl
  |some v=>exact MI v n 0
 cases hi with
 |none=>rfl
 |some v=>exact MI v n n
def KP(i j:Nat):Builtin.Slice.slicePlaces (i:Int) (j:Int) 1=j-i:=by
 unfold Builtin.Slice.slicePlaces;have h1:(1:Int)>0:=by lia
 simp only[h1,iE,Int.ediv_one];split<;>lia
def AR{v:JZ}{o:Option Int}{Q:Option Int->JX->Prop}(p:IsPart v o)(h:Q o s):wpAny (model prog w) A (Builtin.Slice.slicePartIndex v) Q E s:=by
 cases p with
 |none=>exact slicePart_none h
 |int i t=>exact slicePart_int h
def w6{sl:JY}{vl vu:JZ}{lo hi:Option Int}{n:Nat}{Q:Int×Int×Nat->JX->Prop}(hs:s.heap.IsSliceOf sl vl vu .none)(pl:IsPart vl lo)(pu:IsPart vu hi)(h:Q (((iP n 0 lo:Nat):Int),1,iP n n hi-iP n 0 lo) s):wpAny (model prog w) A (Builtin.Slice.sliceApplied (.ref sl) (pure (n:Int))) Q E s:=by
 obtain⟨os,YX,hcs,hds⟩:=id hs;unfold Builtin.Slice.sliceApplied Builtin.Slice.sliceFields;refine aG (aG (gO YX hds (x:=vl) rfl (aG (gO YX hds (x:=vu) rfl (aG (gO YX hds (x:=.none) rfl (aS ?_)))))));refine aG (slicePart_none ?_);show wpAny _ _ (if((1:Int)==0)=true then _ else _) _ _ s;rw[aK (by decide)];refine aG (AR pl (aG (AR pu (aG (aS ?_)))));show wpAny _ _ (match Builtin.Slice.sliceAdjust lo hi 1 (n:Int)with|(lo,hi)=>pure (lo,(1:Int),Builtin.Slice.slicePlaces lo hi 1)) _ _ s
 rw[KO lo hi n];show wpAny _ _ (pure (((iP n 0 lo:Nat):Int),(1:Int),Builtin.Slice.slicePlaces ((iP n 0 lo:Nat):Int) ((iP n n hi:Nat):Int) 1)) _ _ s;rw[KP];exact aS h
def PJ(xs:Array JZ)(i k:Nat):((List.range k).filterMap λ(m:Nat)=>xs[((i:Int)+(m:Int)*1).toNat]?).toArray=((xs.toList.drop i).take k).toArray:=by
 have e:(λ(m:Nat)=>xs[((i:Int)+(m:Int)*1).toNat]?)=λm=>xs[i+m]?:=by
  funext m
  have:((i:Int)+(m:Int)*1).toNat=i+m:=by lia
  rw[this]
 rw[e];have:=pick_run xs i k;rw[List.filterMap_map]at this;have e2:((λx=>xs[x]?)∘λx=>i+x)=λm=>xs[i+m]?:=rfl;rw[e2]at this;rw[this]
def u5{t sl:JY}{items:Array JZ}{vl vu:JZ}{lo hi:Option Int}{Q:JZ->JX->Prop}(ht:IsTup s.heap t items)(hs:s.heap.IsSliceOf sl vl vu .none)(pl:IsPart vl lo)(pu:IsPart vu hi)(hw:¬(iP items.size 0 lo=0/\iP items.size items.size hi=items.size))(h:Q (.ref s.heap.objs.size) {s with heap:=s.heap.push {cls:=.type "tuple",data:=.seq ((items.toList.drop (iP items.size 0 lo)).take (iP items.size items.size hi-iP items.size 0 lo)).toArray}})(hsz:items.size<=sizeLine):wpAny (model prog w) A (getItem (.ref t) (.ref sl)) Q E s:=by
 have MJ:sizeOk (.seq ((items.toList.drop (iP items.size 0 lo)).take (iP items.size items.size hi-iP items.size 0 lo)).toArray):=by show((items.toList.drop (iP items.size 0 lo)).take (iP items.size items.size hi-iP items.size 0 lo)).toArray.size<=sizeLine;rw[bo,cc,mX,fq];lia
 have hj:iP items.size items.size hi<=items.size:=Vz _ _ (ae _) hi;obtain⟨os,YX,hcs,hds⟩:=id hs;have hTs:s.TypeIs (.ref sl) "slice":=⟨os,YX,hcs⟩;unfold getItem
 try with_reducible refine gp ?_
 first|refine aG (aS ?_)|skip
 refine aG (wpAny_sequenceKey ht.typeIs (by decide) ?_);refine aG (xu (name:=Str.ofString "__getitem__") ht.typeIs JW
  (jo JW ht.typeIs entry_tuple_getitem ?_ (args_tuple_getitem _ _)))
 show wpAny _ _ (Builtin.Tuple.tupleItemsOf (.ref t) >>= _) _ _ s;refine aG (tupleItemsOf_ ht ?_);refine aG (tX hTs ?_);rw[aL (by decide)];refine aG (w6 hs pl pu ?_);have hno:¬((((iP items.size 0 lo:Nat):Int)==0&&(1:Int)==1&&(iP items.size items.size hi-iP items.size 0 lo)==items.size)=true):=by intro q;rw[tS,tS]at q;have q1:((iP items.size 0 lo:Nat):Int)=0:=eq_of_beq q.1.1;have q2:iP items.size items.size hi-iP items.size 0 lo=items.size:=eq_of_beq q.2;exact hw ⟨by lia,by lia⟩
 show wpAny _ _ (if(((iP items.size 0 lo:Nat):Int)==0&&(1:Int)==1&&(iP items.size items.size hi-iP items.size 0 lo)==items.size)=true then _ else _) _ _ s;rw[aK hno,PJ]
 first
  |exact aG (m:=Builtin.Tuple.tupleExact _) (jI (aS ⟨_,rfl,aS h⟩) MJ)
  |exact aG (m:=Builtin.Tuple.tupleExact _) (jI (aG (aS (aS ⟨_,rfl,aS h⟩))) MJ)
  |exact aG (aG (m:=Builtin.Tuple.tupleExact _) (jI (aS (aS ⟨_,rfl,aS h⟩)) MJ))
  |exact aG (aG (m:=Builtin.Tuple.tupleExact _) (jI (aS ⟨_,rfl,aS h⟩) MJ))
end
end HT
namespace L2
open PySem PySem.Spec PyProof.Rows
variable{X:Cx}{e:Expr}{pos:Pos}{r:V->Option Int->Option Int->Hp->VK->Prop}{n j t':Nat}{i:Int}{bv:List (JY×Obj)}{Z:St}{H:Hp}{s:JX}{p:JY}{xs ys:List V}{aa its':List JZ}{f:Array JZ->Array JZ}{A:Jd}{x:V}{u v:JZ}{es:List Expr}{prog:Ja}{E:JZ->JX->Prop}
abbrev TO:=St->Hp->(Option Int->Hp->Prop)->Prop
def PO(X:Cx)(e:Option Expr)(t:TO):Prop :=
 ∀(bv:List (JY×Obj))(s:JX)(Z:St)(H:Hp)(Q:Option Int->Hp->Prop),â X bv Z H s->t Z H Q ->
  wX X (evalPart e X.env) (λu s'=>∃o H',â X bv Z H' s'/\IsPart u o/\Q o H') X.xe s
def R6:TO:=λ_ H Q=>Q none H
def YY(t:TE):TO:=λZ H Q=>t Z H λx H1=>∃i,x=.int i/\Q (some i) H1
section
variable{te:TE}{lo hi:Option Expr}{tl th:TO}{p2:Pos}
def jS:PO X none R6:=by intro bv s Z H Q I h;rw[evalPart_none];exact aS ⟨none,H,I,.none,h⟩
def bj(h:PE X e te):PO X (some e) (YY te):=by intro bv s Z H Q I hw;rw[evalPart_some];refine cC (h bv s Z H _ I hw) λu s1 h_=>?_;obtain⟨x,H1,I1,r1,q1⟩:=h_;obtain⟨i,rfl,q⟩:=q1;obtain⟨t,rfl⟩:=r1;exact⟨some i,H1,I1,.int i t,q⟩
def SlR(X:Cx)(r:V->Option Int->Option Int->Hp->VK->Prop):Prop :=
 ∀(bv:List (JY×Obj))(s:JX)(Z:St)(H:Hp)(x:V)(v vl vu:JZ)(lo hi:Option Int)(sl:JY)(Q:VK),â X bv Z H s->æ x v->s.heap.IsSliceOf sl vl vu .none->IsPart vl lo->IsPart vu hi->r x lo hi H Q ->
  ∃T id,typeLookup (.type T) "__getitem__"=pure (some (.builtin id))/\s.TypeIs v T/\wX X (getItem v (.ref sl)) (EP X bv Z Q) X.xe s
def tSl(r:V->Option Int->Option Int->Hp->VK->Prop)(te:TE)(tl th:TO):TE:=λZ H Q=>te Z H λx H1=>tl Z H1 λl H2=>th Z H2 λu H3=>r x l u H3 Q
def cP(hr:SlR X r)(he:PE X e te)(hl:PO X lo tl)(hu:PO X hi th):PE X (.Subscript e (.Slice lo hi none p2) pos) (tSl r te tl th):=by
 intro bv s Z H Q I h;refine Subscript_ (cC (he bv s Z H _ I h) λv s1 h_=>?_);obtain⟨x,H1,I1,r1,q1⟩:=h_;refine wpAny_Slice (cC (hl bv s1 Z H1 _ I1 q1) λvl s2 ⟨l,H2,I2,pl,q2⟩=>cC (hu bv s2 Z H2 _ I2 q2) λvu s3 h_=>?_);obtain⟨u,H3,I3,pu,q3⟩:=h_;rw[evalPart_none];refine aS ?_;have I4:â X bv Z H3 {s3 with heap:=s3.heap.push {cls:=.type "slice",data:=.fields #[vl,vu,.none]}}:=I3.kept (t':=s3.toks) λb ob q=>bG _ q
 obtain⟨T,id,hT,ht,hg⟩:=hr bv {s3 with heap:=s3.heap.push {cls:=.type "slice",data:=.fields #[vl,vu,.none]}} Z H3 x v vl vu l u s3.heap.objs.size Q I4 r1 (Heap.IsSliceOf.new ..) pl pu q3;show wX X (subscriptTail e (.Slice lo hi none p2) v (.ref s3.heap.objs.size)) (EP X bv Z Q) X.xe {s3 with heap:=s3.heap.push {cls:=.type "slice",data:=.fields #[vl,vu,.none]}};exact tail_any (ops:=[.ref s3.heap.objs.size,v]) ht hT hg (by with_unfolding_all rfl)
def dN(xs:List V)(lo hi:Option Int):List V:=(xs.drop (HT.iP xs.length 0 lo)).take (HT.iP xs.length xs.length hi-HT.iP xs.length 0 lo)
def ka(xs:List V)(lo hi:Option Int):(dN xs lo hi).length<=xs.length:=by unfold dN;rw[cc,mX];lia
def aB9(K:Ni):V->Option Int->Option Int->Hp->VK->Prop:=λx lo hi H Q=>∃a xs,x=.ref a/\bO K H a xs /\
 ¬(HT.iP xs.length 0 lo=0/\HT.iP xs.length xs.length hi=xs.length)/\∀p,H p=none->Q (.ref p) (ü H p (.tup (dN xs lo hi)))
def V0:SlR X (aB9 X.K):=by
 intro bv s Z H x v vl vu lo hi sl Q I rx hs pl pu h;obtain⟨a,xs,rfl,hx,hw,q⟩:=h;cases rx;obtain⟨aa,r,ht,hz⟩:=I.tuple hx;have lc:aa.toArray.size=xs.length:=by rw[bo];exact r.length.symm
 refine⟨"tuple",_,JW.lookup,ht.typeIs,?_⟩;refine HT.u5 ht hs pl pu (by rw[lc];exact hw) ?_ (by rw[lc];exact hz);rw[lc];refine⟨.ref s.heap.objs.size,_,I.laid (t':=s.toks) (o:=.tup (dN xs lo hi)) (λb ob q=>bG _ q) (ae _) ?_,rfl,q _ (I.cI.fresh (ae _))⟩;exact⟨iA (ka xs lo hi) hz,_,(r.drop (HT.iP xs.length 0 lo)).take (HT.iP xs.length xs.length hi-HT.iP xs.length 0 lo),IsTup.new _ _⟩
end
def KQ(n:Nat)(i:Int):Option Nat:=if 0<=i then(if i<n then some i.toNat else none)else if -(n:Int)<=i then some (i+n).toNat else none
def rH{α:Type}(xs:List α)(i:Int):Option α:=(KQ xs.length i).bind λj=>xs[j]?
def MK(h:KQ n i=some j):seqIndex? i n=some j/\j<n/\-(n:Int)<=i/\i<n:=by
 unfold KQ at h;by_cases h0:0<=i
 .rw[aL h0]at h;by_cases h1:i<n
  .rw[aL h1]at h;have e:i.toNat=j:=bR h;exact⟨by rw[seqIndex_of h0 h1,e],by lia,by lia,h1⟩
  rw[aK h1]at h;cases h
 rw[aK h0]at h;by_cases h1:-(n:Int)<=i
 .rw[aL h1]at h;have e:(i+n).toNat=j:=bR h;exact⟨by rw[seqIndex_neg (by lia) h1,e],by lia,h1,by lia⟩
 rw[aK h1]at h;cases h
def EU{α:Type}{xs:List α}{v:α}(h:rH xs i=some v):∃j,seqIndex? i xs.length=some j/\xs[j]?=some v/\j<xs.length/\-(xs.length:Int)<=i/\i<xs.length:=by
 unfold rH at h;cases e:KQ xs.length i with
 |none=>rw[e]at h;cases h
 |some j =>
  rw[e]at h;obtain⟨h1,h2,h3,h4⟩:=MK e;exact⟨j,h1,h,h2,h3,h4⟩
def jT{α:Type}{xs:List α}{v:α}(h:xs[j]?=some v):rH xs (j:Int)=some v:=by
 have hj:j<xs.length:=(bq.mp h).1;have e:KQ xs.length (j:Int)=some j:=by unfold KQ;rw[aL (by lia),aL (by lia)];simp
 unfold rH;rw[e];exact h
def Gc{α:Type}(xs:List α)(v:α):rH (xs++[v]) (-1)=some v:=by
 have hl:(xs++[v]).length=xs.length+1:=by simp
 have e:KQ (xs++[v]).length (-1)=some xs.length:=by
  unfold KQ;rw[hl,aK (by decide),aL (by lia)]
  congr 1
  lia
 unfold rH;rw[e];show(xs++[v])[xs.length]?=some v;simp
def ML(b:Expr):Prop:=∀o i,subscripted b false o i=operate [o,i] (getItem o i)
def V1(X:Cx)(r:R2):Prop :=
 ∀(value slice:Expr)(bv:List (JY×Obj))(s:JX)(Z:St)(H:Hp)(x y:V)(v u:JZ)(Q:VK),â X bv Z H s->æ x v->æ y u->r x y H Q ->
  subscripted slice false v u=operate [v,u] (getItem v u)->wX X (subscriptTail value slice v u) (EP X bv Z Q) X.xe s
def V2(X:Cx)(id:String)(r:V->List V->Hp->VK->Prop):Prop :=
 ∀(bv:List (JY×Obj))(s:JX)(Z:St)(H:Hp)(x:V)(xs:List V)(v:JZ)(us:List JZ)(Q:VK),â X bv Z H s->æ x v->aq xs us->r x xs H Q ->
  wX X (call (.builtin id) (v::us)) (EP X bv Z Q) X.xe s
section
variable{a b:Expr}{ta tb:TE}
def YZ{r:R2}(hr:V1 X r)(ha:PE X a ta)(hb:PE X b tb)(hs:ML b):PE X (.Subscript a b pos) (R0 r ta tb):=by intro bv s Z H Q I h;exact Subscript_ (Vr ha hb I h λv u s2 x y H2 I2 rx ry q=>hr a b bv s2 Z H2 x y v u Q I2 rx ry q (hs _ _))
inductive Ya(K:Ni)(x y:V)(H:Hp)(Q:VK):Prop
 |mk (p:JY) (xs:List V) (i:Int) (v:V) (_:x=.ref p) (_:y=.int i) (_:aX K H p xs) (_:rH xs i=some v) (_:Q v H)
inductive Yb(K:Ni)(x y:V)(H:Hp)(Q:VK):Prop
 |mk (p:JY) (xs:List V) (i:Int) (v:V) (_:x=.ref p) (_:y=.int i) (_:bO K H p xs) (_:rH xs i=some v) (_:Q v H)
def aBA:R2:=λx y H Q=>∃z i c,x=.str z/\y=.int i/\z.length<=sizeLine/\rH z.cps.toList i=some c/\Q (.str ⟨#[c]⟩) H
def R7:V1 X (Ya X.K):=by
 intro value slice bv s Z H x y v u Q I rx ry h hs;obtain⟨p,xs,i,z,rfl,rfl,hq,he,q⟩:=h;cases rx;obtain⟨t,rfl⟩:=ry;obtain⟨aa,r,pl,hz⟩:=I.list hq;obtain⟨j,h1,h2,h3,h4,h5⟩:=EU he;obtain⟨w,ew,NS⟩:=r.get h2;have hl:=r.length;have hn:=uA;have fin:EP X bv Z Q w s:=⟨z,H,I,NS,q⟩;by_cases h0:0<=i
 .have hj:i.toNat=j:=by rw[seqIndex_of h0 h5]at h1;exact bR h1
  exact item_listR pl.isList h0 (by lia) (by rw[hj];simpa using ew) fin hs
 have hj:(i+(aa.toArray.size:Int)).toNat=j:=by rw[seqIndex_neg (by lia) h4]at h1;rw[bo,<-hl];exact bR h1
 exact subscriptTail_builtinR (x:=w) pl.isList.typeIs slot_list_getitem.lookup
  (wpAny_getItem_list_neg (Q:=λr s'=>r=w/\EP X bv Z Q r s') pl.isList (by lia) (by rw[bo]<;>lia) (by lia) (by rw[hj];simpa using ew) ⟨rfl,fin⟩) hs
def V3:V1 X (Yb X.K):=by
 intro value slice bv s Z H x y v u Q I rx ry h hs;obtain⟨p,xs,i,z,rfl,rfl,hq,he,q⟩:=h;cases rx;obtain⟨t,rfl⟩:=ry;obtain⟨aa,r,pl,hz⟩:=I.tuple hq;obtain⟨j,h1,h2,h3,h4,h5⟩:=EU he;obtain⟨w,ew,NS⟩:=r.get h2;have hl:=r.length;have hn:=uA;have fin:EP X bv Z Q w s:=⟨z,H,I,NS,q⟩;exact subscriptTail_builtinR (x:=w) pl.typeIs slot_tuple_getitem.lookup
  (getItem_tuple (j:=j) (Q:=λr s'=>r=w/\EP X bv Z Q r s') pl (by lia) (by lia) (by rw[bo,<-hl];exact h1) (by simpa using ew) ⟨rfl,fin⟩) hs
def V4:V1 X aBA:=by
 intro value slice bv s Z H x y v u Q I rx ry h hs;obtain⟨z,i,c,rfl,rfl,hz,he,q⟩:=h;obtain⟨t,rfl⟩:=rx;obtain⟨t',rfl⟩:=ry;obtain⟨j,h1,h2,h3,h4,h5⟩:=EU he;have hl:z.cps.toList.length=z.length:=by simp[Str.length]
 rw[hl]at h1 h4 h5;have hn:=uA;exact tail_any (typeIs_str s z t) slot_str_getitem.lookup (getItem_str (c:=c) (by have e1:decide (i < -(2 ^ 63:Int))=false:=cL (by lia);have e2:decide (i ≥ 2 ^ 63)=false:=cL (by lia);rw[e1,e2,Bool.or_false]) (by rw[h1];simpa using h2) ⟨.str ⟨#[c]⟩,H,I.tok _,⟨_,rfl⟩,q⟩) hs
def KR(aa:List JZ)(n j:Nat)(u:JZ):Obj.mapSeq (·.setIfInBounds j u) {cls:=.type "list",data:=.seq aa.toArray n}={cls:=.type "list",data:=.seq (aa.set j u).toArray n}:=by simp[Obj.mapSeq]
def â.lst(I:â X bv Z H s)(h:H p=some (.lst xs)):
  ∃(aa:List JZ)(n:Nat),aq xs aa/\s.heap.get? p=some {cls:=.type "list",data:=.seq aa.toArray n}/\xs.length<=sizeLine:=by
 obtain⟨z,aa,n,r,e⟩:=I.cI p _ h;exact⟨aa,n,r,e,z⟩
def â.V5{n':Nat}{f:Obj->Obj}(I:â X bv Z H s)(h:H p=some (.lst xs))(ho:s.heap.get? p=some {cls:=.type "list",data:=.seq aa.toArray n})(hf:f {cls:=.type "list",data:=.seq aa.toArray n}={cls:=.type "list",data:=.seq its'.toArray n'})(r:aq ys its')(hz:ys.length<=sizeLine)(t:Nat):
  â X bv Z (ü H p (.lst ys)) {s with heap:=s.heap.update p f,toks:=t}:=by
 have e:(s.heap.update p f).get? p=some {cls:=.type "list",data:=.seq its'.toArray n'}:=by rw[xv f ho (by rw[hf]<;>rfl),hf]
 refine I.write (x:=p) (e:=p) (by rw[h];trivial) (.inl rfl) (λb u hb q=>(tI _ _ (bS hb)).trans q) ⟨_,e⟩ ?_;exact⟨hz,its',n',r,e⟩
def Yc:V->V->V->Hp->(Hp->Prop)->Prop:=λo i v H Q=>∃p xs k j,o=.ref p/\i=.int k/\H p=some (.lst xs)/\KQ xs.length k=some j/\Q (ü H p (.lst (xs.set j v)))
def set_list:YC X Yc:=by
 intro bv s Z H o i v ov iv u Q I ro ri rv h;obtain⟨p,xs,k,j,rfl,rfl,hp,hj,q⟩:=h;cases ro;obtain⟨t,rfl⟩:=ri;obtain⟨aa,n,r,ho,hz⟩:=I.lst hp;obtain⟨h1,h2,h3,h4⟩:=MK hj;have hl:=r.length;have hn:=uA;have I':â X bv Z (ü H p (.lst (xs.set j v))) {s with heap:=s.heap.update p (Obj.mapSeq (·.setIfInBounds j u))} :=
  I.V5 hp ho (KR aa n j u) (r.set rv j) (by rw[List.length_set];exact hz) s.toks
 by_cases h0:0<=k
 .have hk:k.toNat=j:=by rw[seqIndex_of h0 h4]at h1;exact bR h1
  exact W.ki_setAt ho h0 (by lia) (by rw[bo,<-hl];exact h4) (by rw[hk];exact⟨_,I',q⟩)
 have hk:(k+(aa.toArray.size:Int)).toNat=j:=by rw[seqIndex_neg (by lia) h3]at h1;rw[bo,<-hl];exact bR h1
 exact W.ki_setBack ho (by lia) (by rw[bo,<-hl];exact h3) (by lia) (by rw[hk];exact⟨_,I',q⟩)
def EV(lo hi:Option Int)(n:Nat):(sliceBounds lo hi none n).1=((HT.iP n 0 lo:Nat):Int)/\(sliceBounds lo hi none n).2.1=((HT.iP n n hi:Nat):Int)/\(sliceBounds lo hi none n).2.2=1:=by
 refine⟨?_,?_,rfl⟩
 .cases lo with
  |none=>simp[sliceBounds,HT.iP]
  |some i =>
   simp only[sliceBounds,HT.iP,Option.getD_none,show(1:Int)>0 by decide,iE];by_cases h:i<0
   .simp only[h,iE]<;>lia
   simp only[h,cm]<;>lia
 cases hi with
 |none=>simp[sliceBounds,HT.iP]
 |some i =>
  simp only[sliceBounds,HT.iP,Option.getD_none,show(1:Int)>0 by decide,iE];by_cases h:i<0
  .simp only[h,iE]<;>lia
  simp only[h,cm]<;>lia
def B0(aa:List JZ)(lo hi:Option Int):slicePick aa.toArray lo hi none=((aa.drop (HT.iP aa.length 0 lo)).take (HT.iP aa.length aa.length hi-HT.iP aa.length 0 lo)).toArray:=by obtain⟨h1,h2,h3⟩:=EV lo hi aa.toArray.size;unfold slicePick;rw[h1,h2,h3];simp only[sliceRange_one,pick_run,bo]<;>rfl
def Yd(K:Ni):V->Option Int->Option Int->Hp->VK->Prop:=λx lo hi H Q=>∃a xs,x=.ref a/\aX K H a xs/\∀p,H p=none->Q (.ref p) (ü H p (.lst (dN xs lo hi)))
def R8:SlR X (Yd X.K):=by intro bv s Z H x v vl vu lo hi sl Q I rx hs pl pu h;obtain⟨a,xs,rfl,hx,q⟩:=h;cases rx;obtain⟨aa,r,ht,hz⟩:=I.list hx;have lc:=r.length;refine⟨"list",_,slot_list_getitem.lookup,ht.isList.typeIs,?_⟩;refine wpAny_getItem_list_slice ht.isList hs pl pu .none (by simp) ?_ (by rw[bo]<;>lia);rw[B0,<-lc];refine⟨.ref s.heap.objs.size,_,I.laid (t':=s.toks) (o:=.lst (dN xs lo hi)) (λb ob q=>bG _ q) (ae _) ?_,rfl,q _ (I.cI.fresh (ae _))⟩;exact⟨iA (ka xs lo hi) hz,_,0,(r.drop (HT.iP xs.length 0 lo)).take (HT.iP xs.length xs.length hi-HT.iP xs.length 0 lo),bK _ rfl⟩
def jy:V->Bool
 |.cX=>true
 |.bl _=>true
 |.int _=>true
 |.str _=>true
 |_=>false
def Bv:V->V->Bool
 |.cX,.cX=>true
 |.bl a,.bl b=>a==b
 |.bl a,.int b=>(if a then 1 else 0)==b
 |.int a,.bl b=>a==(if b then 1 else 0)
 |.int a,.int b=>a==b
 |.str a,.str b=>a==b
 |_,_=>false
def AS{y:V}(ry:æ y u)(rx:æ x v)(fy:jy y=true)(fx:jy x=true):SeqAt.EqAt A s u v (Bv y x):=by
 cases y with
 |cX =>
  cases ry;cases x with
  |cX=>cases rx;exact tV _
  |bl b=>cases rx;exact SeqAt.EqAt.none_bool b
  |int b=>obtain⟨t,rfl⟩:=rx;exact SeqAt.EqAt.none_int b t
  |str b=>obtain⟨t,rfl⟩:=rx;exact SeqAt.EqAt.none_str b t
  |_=>exact absurd (show false=true from fx) cG
 |bl a =>
  cases ry;cases x with
  |cX=>cases rx;exact SeqAt.EqAt.bool_none a
  |bl b=>cases rx;exact SeqAt.EqAt.bool_bool a b
  |int b=>obtain⟨t,rfl⟩:=rx;exact SeqAt.EqAt.bool_int a b t
  |str b=>obtain⟨t,rfl⟩:=rx;exact SeqAt.EqAt.bool_str a b t
  |_=>exact absurd (show false=true from fx) cG
 |int a =>
  obtain⟨t',rfl⟩:=ry;cases x with
  |cX=>cases rx;exact SeqAt.EqAt.int_none a t'
  |bl b=>cases rx;exact SeqAt.EqAt.int_bool a t' b
  |int b=>obtain⟨t,rfl⟩:=rx;exact tP a t' b t
  |str b=>obtain⟨t,rfl⟩:=rx;exact SeqAt.EqAt.int_str a t' b t
  |_=>exact absurd (show false=true from fx) cG
 |str a =>
  obtain⟨t',rfl⟩:=ry;cases x with
  |cX=>cases rx;exact SeqAt.EqAt.str_none a t'
  |bl b=>cases rx;exact SeqAt.EqAt.str_bool a t' b
  |int b=>obtain⟨t,rfl⟩:=rx;exact SeqAt.EqAt.str_int a t' b t
  |str b=>obtain⟨t,rfl⟩:=rx;exact SeqAt.EqAt.str_str a t' b t
  |_=>exact absurd (show false=true from fx) cG
 |_=>exact absurd (show false=true from fy) cG
def Gd(x:V)(u:JZ):Bool:=match u with
 |.none=>Bv .cX x
 |.bool b=>Bv (.bl b) x
 |.int i _=>Bv (.int i) x
 |.str z _=>Bv (.str z) x
 |_=>false
def KS{y:V}(r:æ y u)(f:jy y=true):Gd x u=Bv y x:=by
 cases y with
 |cX=>cases r;rfl
 |bl b=>cases r;rfl
 |int i=>obtain⟨t,rfl⟩:=r;rfl
 |str z=>obtain⟨t,rfl⟩:=r;rfl
 |_=>exact absurd (show false=true from f) cG
def u6{x:V}:∀{xs:List V}{us:List JZ},aq xs us->xs.all jy=true->us.any (Gd x)=xs.any λy=>Bv y x
 |_,_,.nil,_=>rfl
 |y::xs,u::us,.cons r t,f=>by rw[List.all_cons,tS]at f;rw[zy,zy,KS r f.1,u6 t f.2]
def mC{A:Jd}{s:JX}{x:V}{v:JZ}(rx:æ x v)(fx:jy x=true):∀{xs:List V}{us:List JZ},aq xs us->xs.all jy=true->∀u∈us,SeqAt.EqAt A s u v (Gd x u)
 |_,_,.nil,_=>λu hu=>by cases hu
 |y::xs,u::us,.cons r t,f=>λu' hu=>by
  rw[List.all_cons,tS]at f;rcases au.mp hu with rfl|hu
  .rw[KS r f.1];exact AS r rx f.1 fx
  exact mC rx fx t f.2 u' hu
def EW(x:V)(xs:List V):Bool:=xs.any λy=>Bv y x
inductive Xd(K:Ni)(neg:Bool)(x y:V)(H:Hp)(Q:VK):Prop
 |mk (p:JY) (xs:List V) (_:y=.ref p) (_:aX K H p xs\/bO K H p xs) (_:jy x=true) (_:xs.all jy=true) (_:Q (.bl (if neg then !EW x xs else EW x xs)) H)
def Cv:kY X (compareOp .In) (Xd X.K false):=by
 intro bv s Z H x y v u Q I rx ry h;obtain⟨p,xs,rfl,hq,fx,fs,q⟩:=h;cases ry;rcases hq with hq|hq
 .obtain⟨aa,r,pl,hz⟩:=I.list hq;refine SeqAt.in_listAt (Gd x) pl.isList (λw hw=>mC rx fx r fs w (by simpa using hw)) ⟨.bl _,H,I,rfl,?_⟩;rw[show aa.toArray.any (Gd x)=aa.any (Gd x) by simp,u6 r fs];exact q
 obtain⟨aa,r,pl,hz⟩:=I.tuple hq;refine SeqAt.in_tupleAt (Gd x) pl (λw hw=>mC rx fx r fs w (by simpa using hw)) ⟨.bl _,H,I,rfl,?_⟩;rw[show aa.toArray.any (Gd x)=aa.any (Gd x) by simp,u6 r fs];exact q
def u7:kY X (compareOp .NotIn) (Xd X.K true):=by
 intro bv s Z H x y v u Q I rx ry h;obtain⟨p,xs,rfl,hq,fx,fs,q⟩:=h;cases ry;rcases hq with hq|hq
 .obtain⟨aa,r,pl,hz⟩:=I.list hq;refine SeqAt.notIn_listAt (Gd x) pl.isList (λw hw=>mC rx fx r fs w (by simpa using hw)) ⟨.bl _,H,I,rfl,?_⟩;rw[show aa.toArray.any (Gd x)=aa.any (Gd x) by simp,u6 r fs];exact q
 obtain⟨aa,r,pl,hz⟩:=I.tuple hq;refine SeqAt.notIn_tupleAt (Gd x) pl (λw hw=>mC rx fx r fs w (by simpa using hw)) ⟨.bl _,H,I,rfl,?_⟩;rw[show aa.toArray.any (Gd x)=aa.any (Gd x) by simp,u6 r fs];exact q
def EX:dt X (.builtin "len") (λxs H Q=>∃p ys,xs=[.ref p]/\(aX X.K H p ys\/bO X.K H p ys)/\Q (.int ys.length) H):=by
 intro bv s Z H xs us Q I r h;obtain⟨p,ys,rfl,hq,q⟩:=h;obtain⟨u,rfl,rx⟩:=é r;cases rx;have hn:=uA;rcases hq with hq|hq
 .obtain⟨aa,r',pl,hz⟩:=I.list hq;have lc:=r'.length;exact Calls.call_len_list pl.isList (by simp only[bo]<;>lia) ⟨.int ys.length,H,I.tok _,⟨s.toks+1,by rw[bo,lc]⟩,q⟩
 obtain⟨aa,r',pl,hz⟩:=I.tuple hq;have lc:=r'.length;exact len_tuple pl (by simp only[bo]<;>lia) ⟨.int ys.length,H,I.tok _,⟨s.toks+1,by rw[bo,lc]⟩,q⟩
def u9:dt X (.builtin "len") (λxs H Q=>∃z,xs=[.str z]/\z.length<=sizeLine/\Q (.int z.length) H):=by intro bv s Z H xs us Q I r h;obtain⟨z,rfl,hz,q⟩:=h;obtain⟨u,rfl,t,rfl⟩:=é r;have hn:=uA;exact len_str (by lia) ⟨.int z.length,H,I.tok _,⟨_,rfl⟩,q⟩
def EY:dt X (.type "list") (λxs H Q=>∃p ys,xs=[.ref p]/\(aX X.K H p ys\/bO X.K H p ys)/\∀l,H l=none->Q (.ref l) (ü H l (.lst ys))):=by
 intro bv s Z H xs us Q I r h;obtain⟨p,ys,rfl,hq,q⟩:=h;obtain⟨u,rfl,rx⟩:=é r;cases rx;have fin:∀(aa:List JZ),aq ys aa->ys.length<=sizeLine->∀(h':Heap)(c':Nat),(∀b o',s.heap.get? b=some o'->h'.get? b=some o') ->
   h'.get? s.heap.objs.size=some {cls:=.type "list",dict:=none,data:=.seq aa.toArray c',slots:=#[]}->EP X bv Z Q (.ref s.heap.objs.size) {s with heap:=h'}:=λaa r' hz h' c' kp e =>
  ⟨.ref s.heap.objs.size,_,I.laid (t':=s.toks) kp (ae _) (show cY X.prog X.w _ h' _ (.lst ys)from⟨hz,aa,c',r',e⟩),rfl,q _ (I.cI.fresh (ae _))⟩
 rcases hq with hq|hq
 .obtain⟨aa,r',pl,hz⟩:=I.list hq;have lc:=r'.length;obtain⟨o,ho,hc,n,hd⟩:=pl.isList;exact call_list_seq p (.inl rfl) ho hc hd (λh' c' kp e=>fin aa r' hz h' c' kp e) (by simp only[bo]<;>lia)
 obtain⟨aa,r',pl,hz⟩:=I.tuple hq;have lc:=r'.length;obtain⟨o,ho,hc,n,hd⟩:=pl;exact call_list_seq p (.inr rfl) ho hc hd (λh' c' kp e=>fin aa r' hz h' c' kp e) (by simp only[bo]<;>lia)
def B1:dt X (.type "tuple") (λxs H Q=>∃p ys,xs=[.ref p]/\((aX X.K H p ys/\∀l,H l=none->Q (.ref l) (ü H l (.tup ys)))\/(bO X.K H p ys/\Q (.ref p) H))):=by
 intro bv s Z H xs us Q I r h;obtain⟨p,ys,rfl,h⟩:=h;obtain⟨u,rfl,rx⟩:=é r;cases rx;rcases h with⟨hq,q⟩|⟨hq,q⟩
 .obtain⟨aa,r',pl,hz⟩:=I.list hq;have lc:=r'.length;refine call_tuple_list pl.isList (λh' kp=>?_) (by simp only[bo]<;>lia);have I1:â X bv Z H {s with heap:=h'}:=I.kept (t':=s.toks) kp;have I2:â X bv Z (ü H h'.objs.size (.tup ys)) {s with heap:=h'.push {cls:=.type "tuple",data:=.seq aa.toArray}} :=
   I1.laid (t':=s.toks) (λb o e=>bG _ e) (ae _) (show cY X.prog X.w _ _ _ (.tup ys)from⟨hz,aa,r',IsTup.new _ _⟩)
  exact⟨.ref h'.objs.size,_,I2,rfl,q _ (I1.cI.fresh (ae _))⟩
 obtain⟨aa,r',pl,hz⟩:=I.tuple hq;exact call_tuple_same pl ⟨.ref p,H,I,rfl,q⟩
def tyV(K:Ni)(T:String)(x:V)(H:Hp):Prop:=match x with
 |.str _=>T="str"
 |.int _=>T="int"
 |.ref p=>(T="list"/\∃xs,aX K H p xs)\/(T="tuple"/\∃o,K.lookup p=some o/\o.cls=.type "tuple"/\o.dict=none) \/
   (T="dict"/\((∃jp,H p=some (.dK jp))\/∃jp,H p=some (.dT jp)))\/(T="set"/\∃S n,H p=some (.set S n))
 |_=>False
def V6{T:String}(I:â X bv Z H s)(r:æ x v)(ty:tyV X.K T x H):
  s.TypeIs v T/\∀a,v=.ref a->∃ob,s.heap.get? a=some ob/\ob.dict=none:=by
 cases x with
 |str z =>
  obtain⟨t,rfl⟩:=r;cases(show T="str"from ty);exact⟨typeIs_str s z t,λ_ e=>nomatch e⟩
 |int i =>
  obtain⟨t,rfl⟩:=r;cases(show T="int"from ty);exact⟨typeIs_int s i t,λ_ e=>nomatch e⟩
 |ref p =>
  cases r;rcases ty with⟨rfl,xs,hq⟩|⟨rfl,o,hk,hc,hd⟩|⟨rfl,hk⟩|⟨rfl,S,n,hk⟩
  .obtain⟨aa,_,pl,_⟩:=I.list hq;refine⟨pl.isList.typeIs,λa e=>?_⟩;cases e;obtain⟨o,n,e,c,hd,_⟩:=pl;exact⟨o,e,hd⟩
  .refine⟨⟨o,I.MA p o hk,hc⟩,λa e=>?_⟩;cases e;exact⟨o,I.MA _ o hk,hd⟩
  .have z:∃o,s.heap.get? p=some o/\o.ExactDict:=by
    rcases hk with⟨jp,hk⟩|⟨jp,hk⟩
    .obtain⟨_,_,_,_,o,_,_,e,ex,_⟩:=I.cI p _ hk;exact⟨o,e,ex⟩
    obtain⟨_,_,_,_,o,_,_,e,ex,_⟩:=I.cI p _ hk;exact⟨o,e,ex⟩
   obtain⟨o,e,ex⟩:=z;refine⟨⟨o,e,ex.1⟩,λa e2=>?_⟩;cases e2;exact⟨o,e,ex.2.1⟩
  obtain⟨o,_,_,_,e,ex,_⟩:=I.cI p _ hk;refine⟨⟨o,e,ex.1⟩,λa e2=>?_⟩;cases e2;exact⟨o,e,ex.2.1⟩
 |_=>exact False.elim ty
def tBM(K:Ni)(T:String)(r:V->List V->Hp->VK->Prop)(to:TE)(t:TA):TE:=λZ H Q=>to Z H λx H1=>tyV K T x H1/\t Z H1 λxs H2=>r x xs H2 Q
variable{o:Expr}{to:TE}{t:TA}{name:Str}{apos kT:Pos}{T id:String}{r:V->List V->Hp->VK->Prop}
def Ye(pa:PlainAttrs T)(slot:Slot T name id)(Yf:typeOf (.builtin id)=pure (.type "method_descriptor"))(hm:V2 X id r)(ho:PE X o to)(ha:PA X (e::es) t)(PK:attributeBase o name X.env (eval o X.env)=eval o X.env:=by rfl)(V7:((backTo kT (starEach (e::es) X.env)).all (λx=>!x.1)&&(backToKw kT (keywordEach [] X.env)).all (λx=>x.1.isSome)
   && decide ((e::es).length+([]:List Keyword).length+(if([]:List Keyword).isEmpty then 0 else 1)<30))=true:=by rfl)(PL:(apos.endLine==kT.line)=true:=by rfl)(hs:starEach (e::es) X.env=(false,eval e X.env)::starEach es X.env:=by rfl)(KU:(backTo kT (starEach es X.env)).any (·.1)=false:=by rfl):
  PE X (.Call (.Attribute o name apos) (e::es) [] kT) (tBM X.K T r to t):=by
 intro bv s Z H Q I h;refine wpAny_Call_method_late PK V7 PL rfl (cC (ho bv s Z H _ I h) λv s1 h_=>?_);obtain⟨x,H1,I1,r1,ty,q1⟩:=h_;obtain⟨h1,h2⟩:=V6 I1 r1 ty;refine⟨T,id,pa,slot,Yf,h1,h2,?_⟩;have hA:=ha kT bv s1 Z H1 _ I1 q1;rw[hs]at hA ⊢;refine Calls.callWith_builtin (by show(false||(backTo kT (starEach es X.env)).any (·.1))=false;rw[KU]<;>rfl) (Calls.evalArgs_plain ?_);exact cC hA λus s2 h_=>by obtain⟨vs,H2,I2,r2,q2⟩:=h_;exact hm bv s2 Z H2 x vs v us Q I2 r1 r2 q2
end
def MtM(X:Cx)(id:String)(r:V->List V->Hp->VK->Prop):Prop :=
 ∀(bv:List (JY×Obj))(s:JX)(Z:St)(H:Hp)(x:V)(xs:List V)(v:JZ)(us:List JZ)(Q:VK),â X bv Z H s->æ x v->aq xs us->r x xs H Q ->
  wX X (call (.builtin id) (v::us)) (EP X bv Z Q) X.xe s
def aq.one:∀{x:V}{us:List JZ},aq [x] us->∃u,us=[u]/\æ x u
 |_,_,.cons r .nil=>⟨_,rfl,r⟩
def aq.two:∀{x y:V}{us:List JZ},aq [x,y] us->∃u v,us=[u,v]/\æ x u/\æ y v
 |_,_,_,.cons r (.cons q .nil)=>⟨_,_,rfl,r,q⟩
def aq.reverse{xs:List V}{us:List JZ}(h:aq xs us):aq xs.reverse us.reverse:=by
 induction h with
 |nil=>exact .nil
 |cons r t ih=>rw[List.reverse_cons,List.reverse_cons];exact aq.append ih (.cons r .nil)
def aq.rep{xs:List V}{us:List JZ}(h:aq xs us):∀k:Nat,aq (List.replicate k xs).flatten (List.replicate k us).flatten
 |0=>.nil
 |k+1=>by rw[ze,ze,Dj,Dj];exact aq.append h (aq.rep h k)
def foldl_rep(aa:List JZ):∀(k:Nat)(ÿ:List JZ),
  List.foldl (λx1 x2=>x1++x2) ÿ.toArray (List.replicate k aa.toArray)=(ÿ++(List.replicate k aa).flatten).toArray
 |0,ÿ=>by simp
 |k+1,ÿ=>by
  have e:ÿ.toArray++aa.toArray=(ÿ++aa).toArray:=by simp
  have e2:(ÿ++aa)++(List.replicate k aa).flatten=ÿ++(List.replicate (k+1) aa).flatten:=by rw[ze,Dj,jH]
  rw[<-e2,<-foldl_rep aa k (ÿ++aa),<-e,ze,wZ]
section
variable{l b:JY}{zs:List V}
def â.Yg(I:â X bv Z H s)(hH:H l=some (.lst xs))(e:s.heap.get? l=some {cls:=.type "list",data:=.seq aa.toArray n})(hf:f aa.toArray=its'.toArray)(hv:aq ys its')(hz:ys.length<=sizeLine):
  â X bv Z (ü H l (.lst ys)) {s with heap:=s.heap.update l (Obj.mapSeq f),toks:=t'}:=by
 have q:=PySem.IsL.update e f;rw[hf]at q;refine I.write (x:=l) (e:=l) (by rw[hH];exact trivial) (.inl rfl) (λb' u hb hu=>(tI s.heap (Obj.mapSeq f) (bS hb)).trans hu) ⟨_,q⟩ ?_;exact⟨hz,its',_,hv,q⟩
def â.Yh(I:â X bv Z H s)(hv:aq ys aa)(hz:ys.length<=sizeLine):
  â X bv Z (ü H s.heap.objs.size (.lst ys)) {s with heap:=s.heap.push {cls:=.type "list",data:=.seq aa.toArray},toks:=t'} :=
 I.laid (λ_ _ q=>bG _ q) (ae _) ⟨hz,aa,0,hv,bK _ rfl⟩
def â.fresh(I:â X bv Z H s):H s.heap.objs.size=none:=I.cI.fresh (ae _)
def â.R9(I:â X bv Z H s)(hH:H l=some (.lst xs)):xs.length<=sizeLine/\∃(aa:List JZ)(n:Nat),aq xs aa/\xs.length=aa.length/\s.heap.get? l=some {cls:=.type "list",data:=.seq aa.toArray n}:=by obtain⟨z,aa,n,r,e⟩:=I.cI l _ hH;exact⟨z,aa,n,r,r.length,e⟩
def Ge(h:n<=sizeLine):Builtin.List.listTooLong n=false:=by unfold Builtin.List.listTooLong;exact cL (by lia)
end
def SA:V->List V->Hp->VK->Prop:=λx vs H Q=>∃l xs y,x=.ref l/\vs=[y]/\H l=some (.lst xs)/\xs.length<sizeLine/\Q .cX (ü H l (.lst (xs++[y])))
def fK:MtM X "list.append" SA:=by intro bv s Z H x vs v us Q I rx rv h;obtain⟨l,xs,y,rfl,rfl,hH,hz,q⟩:=h;cases rx;obtain⟨u,rfl,ru⟩:=rv.one;obtain⟨z,aa,n,r,hl,e⟩:=I.R9 hH;refine mf F.slot_list_append ⟨_,e,rfl⟩ F.entry_list_append (F.args_list_append_2 _ _) (PySem.list_append l aa.toArray n u (by rw[bo];lia)) ⟨e,?_⟩;refine⟨.cX,_,I.Yg (its':=aa++[u]) hH e (by simp) (r.append (.cons ru .nil)) ?_,rfl,q⟩;rw[bV,Jk];lia
def SD:V->List V->Hp->VK->Prop:=λx vs H Q=>∃l b xs zs,x=.ref l/\vs=[.ref b]/\H l=some (.lst xs)/\H b=some (.lst zs)/\xs.length+zs.length<=sizeLine/\Q .cX (ü H l (.lst (xs++zs)))
def w8:MtM X "list.extend" SD:=by
 intro bv s Z H x vs v us Q I rx rv h;obtain⟨l,b,xs,zs,rfl,rfl,hH,hB,hz,q⟩:=h;cases rx;obtain⟨u,rfl,ru⟩:=rv.one;cases ru;obtain⟨z,aa,n,r,hl,e⟩:=I.R9 hH;obtain⟨z2,gu,n2,r2,Gf,e2⟩:=I.R9 hB;have hsz:aa.toArray.size+gu.toArray.size<=sizeLine:=by rw[bo,bo];lia
 have PM:¬(!aa.toArray.isEmpty&&Builtin.List.listTooLong (aa.toArray.size+gu.toArray.size))=true:=by rw[Ge hsz,Bool.and_false];exact cG
 refine mf F.slot_list_extend ⟨_,e,rfl⟩ F.entry_list_extend (F.args_list_extend_2 _ _)
  (AutoSeq1.list_extend_list_list_0 l aa.toArray n b gu.toArray n2 PM (by rw[bo];lia) (by lia)) ⟨e,e2,?_⟩
 refine⟨.cX,_,I.Yg (its':=aa++gu) hH e (by simp) (r.append r2) ?_,rfl,q⟩;rw[bV];lia
def aBB:R2:=λx y H Q=>∃l k xs,x=.ref l/\y=.int k/\H l=some (.lst xs)/\-(2 ^ 63)<=k/\k<2 ^ 63/\xs.length*k.toNat<=sizeLine /\
 ∀p,H p=none->Q (.ref p) (ü H p (.lst (List.replicate k.toNat xs).flatten))
def len_rep{α:Type}(xs:List α)(k:Nat):(List.replicate k xs).flatten.length=k*xs.length:=by
 induction k with
 |zero=>simp
 |succ k ih=>rw[ze,Dj,bV,ih,Nat.succ_mul,AB]
def KW:kY X (binaryOp .Mult) aBB:=by
 intro bv s Z H x y v u Q I rx ry h;obtain⟨l,k,xs,rfl,rfl,hH,h1,h2,hz,q⟩:=h;cases rx;obtain⟨t,rfl⟩:=ry;obtain⟨z,aa,n,r,hl,e⟩:=I.R9 hH;have lc:aa.toArray.size*k.toNat<=sizeLine:=by rw[bo,<-hl];exact hz
 have aBC:¬aa.toArray.size*k.toNat>(2 ^ 63-1)/8:=by
  have:(sizeLine:Nat)<=(2 ^ 63-1)/8:=by decide
  lia
 have aBD:¬(!Builtin.List.listFitsIndex k)=true:=by rw[fitsIndex_both h1 h2];exact cG
 have PM:¬Builtin.List.listTooLong (aa.toArray.size*k.toNat)=true:=by rw[Ge lc];exact cG
 have yc:List.foldl (λx1 x2=>x1++x2) #[] (List.replicate (if aa.toArray.isEmpty=true then 0 else k.toNat) aa.toArray)=(List.replicate k.toNat aa).flatten.toArray:=by
  have f0:∀m:Nat,List.foldl (λx1 x2=>x1++x2) #[] (List.replicate m aa.toArray)=(List.replicate m aa).flatten.toArray:=λm=>by have:=foldl_rep aa m [];rw[Dz]at this;exact this
  rw[f0];cases aa with
  |nil=>simp
  |cons a r'=>rw[aK (by simp)]
 refine wpAny_binaryOp_repeat_ref (T:="list") (U:="int") (by decide) ⟨_,e,rfl⟩ (λs'=>typeIs_int s' k t) noFill_list_mul F.fills_int_mul F.slot_int_rmul repeat_list F.slot_int_index.lookup
  (mf F.slot_int_rmul (typeIs_int s k t) F.entry_int_rmul (F.args_int_rmul_2 _ _) (int___rmul___int_list k t l aa.toArray n)
   ⟨e,rfl,⟨_,e,rfl⟩,mf F.slot_list_mul ⟨_,e,rfl⟩ F.entry_list_mul (F.args_list_mul_2 _ _) (AutoListH.list___mul___list_int_3 l aa.toArray n k t aBD aBC PM) ⟨e,?_⟩⟩)
 rw[yc];exact⟨.ref _,_,I.Yh (t':=s.toks) (r.rep k.toNat) (by rw[len_rep,Nat.mul_comm];exact hz),rfl,q _ I.fresh⟩
section
variable{w:Jb}
end
end L2
namespace Att
open PySem PySem.W PySem.Calls PyProof.Rows
def yd{P:Params}{h:Heap}:∀(ns:List Int)(vs:List JZ),WellAll P h vs (ns.map WData.int)->IntsAre vs ns:=by
 intro ns
 induction ns with
 |nil =>
  intro vs w;rw[ED]at w;cases w;exact .nil
 |cons n ns ih =>
  intro vs w;rw[bz]at w;cases w with
  |cons a b =>
   cases a;exact .cons _ _ (ih _ b)
def NT{l:OpenLaw}{n:Nat}(hn:l.most=some n){P:Params}{h:Heap}{args:List WData}{vals:List JZ}(SE:l.row.toRowW.claim.pre args=true)(Us:WellAll P h vals args):
  ∃a vs ns,vals=[Value.ref a]/\args=[WData.list (ns.map WData.int)]/\h.get? a=some {cls:=.type "list",data:=.seq vs.toArray}/\IntsAre vs ns/\ns.length<=n:=by
 have hsh:WShape.hasAll [] args [.list .int]=true:=(pre_splitW SE).1;have hc:l.pre.holds [] {args:=args}=true:=(pre_splitW SE).2;obtain⟨d,r,rfl,h1,h2⟩:=hasAllW_cons hsh;obtain rfl:=hasAllW_nil h2;obtain⟨xs,rfl,h3⟩:=hasW_list h1;obtain⟨ns,rfl⟩:=items_int h3;have lc:ns.length<=n:=by
  unfold OpenLaw.pre at hc;have h4:(WTm.not (.lt (.lit (.int (n:Int))) (.len (.arg 0)))).holds [] {args:=[.list (ns.map .int)]}=true:=by have h4:=(holds_andW hc).1;rw[hn]at h4;exact h4
  have h5:=condW_of h4 (w_not (w_lt w_lit (w_len_list (w_arg rfl))));rw[aJ]at h5;refine Nat.le_of_not_lt λq=>?_;have q':(n:Int)<((ns.length:Nat):Int):=by lia
  first
   | (rw[bw q']at h5;exact absurd h5 (by decide))
   | (simp at h5;lia)
 cases Us with
 |cons w1 w2 =>
  cases w2;cases w1 with
  |list ho EZ=>exact⟨_,_,ns,rfl,rfl,ho,yd ns _ EZ,lc⟩
def NU(l:OpenLaw)(args:List WData):l.row.toRowW.claim.post args (.bool true) args=true :=
 postW_of (r:=l.row.toRowW) (X:=(true==true))
  (show WShape.has [] (.bool true) .bool=true by first|rfl|decide|simp[WShape.has,WShape.arms,WShape.armsAll])
  (show(WTm.eq .res (.lit (.bool true))).value [] {args:=args,res:=some (.bool true),after:=args}=some (.bool (true==true))from w_eq_bool (w_res rfl) w_lit) rfl
def Gg{l:OpenLaw}{n:Nat}{q:Ja}{loose:List Str}{XP:(Str->Option JZ)->Heap->Prop}{YP:Jb->Heap->Prop}{d:DefRec}(hn:l.most=some n)(Yi:d.params.defaults=[])(call:∀(w:Jb)(s₀ s₁:JX)(mg mb:Str->Option JZ)(fa:JY)(o:Obj)(pm cd doc:JZ)(a:JY)(vs:List JZ)(ns:List Int),
   Ground q loose [] XP w s₀ mg mb s₁.heap->YP w s₁.heap ->
   s₁.heap.get? fa=some o->o.data=.func (docDef d.name d.params d.body d.scope pm cd doc)->s₁.heap.CodeRec cd d.name->mg d.name=some (.ref fa) ->
   s₁.heap.get? a=some {cls:=.type "list",data:=.seq vs.toArray}->IntsAre vs ns->ns.length<=n->s₁.gens=#[] ->
   codeAny (model l.prog w) callerA (.call (.ref fa) ⟨[.ref a],[]⟩) (λr s'=>r=.ok (.ret (.bool true))/\OldK s₁.heap s'.heap/\s'.os=s₁.os/\AllBare s'.gens) s₁):
  WalkO q loose XP YP l.row.toRowW d [] (λf vs=>PySem.call f vs):=by
 intro w s₀ s₁ mg mb G Y fa o pm cd doc dV kV ho hd Cn hD V8 hg args vals as SE aFK hrd Us hlo;obtain rfl:dV=.none:=Dflts.none hD Yi;obtain rfl:kV=.none:=Dflts.noKw hD;obtain⟨a,vs,ns,rfl,rfl,V9,hints,lc⟩:=NT hn SE Us;refine enter_call (jv (call w s₀ s₁ mg mb fa o pm cd doc a vs ns G Y ho (fd_plain hd) Cn V8 V9 hints lc hg) λr s' hq=>?_);obtain⟨rfl,h2,h3,h4⟩:=hq;exact⟨.inl ⟨.bool true,.bool true,[],rfl,λ_=>rfl,.bool true,NU l _,λ_=>⟨List.Pairwise.nil,λ_ hm=>(nomatch hm)⟩⟩,h2,h3,h4⟩
section
variable{prog:Ja}{w:Jb}{A:Jd}{E:JZ->JX->Prop}{s:JX}{K:Frag}
end
end Att
namespace L2
open PySem PySem.Spec PyProof.Rows
variable{w:Jb}{mg mb:Str->Option JZ}{CX:Jb->KJ}{k n t' i:Nat}{fa a l globals it C p D:JY}{fd:Jc}{x qual y:Str}{sp:Sp}{s₁ s:JX}{vs aa:List JZ}{ns:List Int}{q prog:Ja}{loose ps Nc N:List Str}{XP:(Str->Option JZ)->Heap->Prop}{YP:Jb->Heap->Prop}{d:DefRec}{à h' h:Heap}{st:Stmt}{f:Nat->V}{oc doc pm bM ct:JZ}{od an:Option JY}{GN:Array (Option JZ)}{A:Jd}{X:Cx}{pos py:Pos}{H H':Hp}{xs:List V}{env:Env}{scope:Scope}{E:JZ->JX->Prop}{cl:List (Str×JY)}{Q:VK}{R:Result->JX->Prop}{elt iter e:Expr}{ifs es:List Expr}{bv:List (JY×Obj)}{Z:St}{ix:List (Option Nat)}{fp ch:List JY}{t:TS}{g:TG}{tt:TT}{te:TE}{J:It}{o:HO}{body:List Stmt}{h1:ExceptHandler}{G:Array GenState->Array GenState->Prop}{B:St->Hp->Prop}
def Cw:∀{vs:List JZ}{ns:List Int},IntsAre vs ns->aq (ns.map V.int) vs
 |_,_,.nil=>.nil
 |_,_,.cons n t h=>.cons ⟨t,rfl⟩ (Cw h)
def WA(H:Hp):Prop:=∀b,H b=none\/∃o xs,H b=some (.Rj o (.lst xs))
def PN{P:Ja}{K:Ni}{CX:KJ}(KX:K.In s₁.heap)(Yj:s₁.heap.Ns mainGlobals mg)(hb:s₁.heap.Ns builtinsNs mb)(hbb:∀x:Str,x≠"__name__"->mb x=bootBuiltins x)(aBE:s₁.heap.NoLimit)(hg:s₁.gens=#[])(ha:s₁.heap.get? a=some {cls:=.type "list",data:=.seq vs.toArray})(hi:IntsAre vs ns)(hl:ns.length<=sizeLine)(hr:fY k callerA)(F:∀à:Heap,K.In à->à.Ns mainGlobals mg->cn P w K mg à CX k fa fd [x] sp)(Yk:∀(s:JX)(u:JZ),BindsTo s fd ⟨[u],[]⟩ [(x,u)])(MH:∀H:Hp,WA H->aX K H a (ns.map V.int)->sp [.ref a] H (λv _=>v=.bl true) λ_ _ _=>False)(hCX:∀H e s',CX [] H s₁ (λ_ _ _=>False) e s'->False):
  codeAny (model P w) callerA (.call (.ref fa) ⟨[.ref a],[]⟩) (λr s'=>r=.ok (.ret (.bool true))/\OldK s₁.heap s'.heap/\s'.os=s₁.os/\AllBare s'.gens) s₁:=by
 have rv:=Cw hi;have aBG:=hi.length;have core:∀H:Hp,WA H->aX K H a (ns.map V.int)->tZ P w H s₁.heap->(∀b,H b≠none->b=a)->(H a≠none->K.lookup a=none) ->
   codeAny (model P w) callerA (.call (.ref fa) ⟨[.ref a],[]⟩) (λr s'=>r=.ok (.ret (.bool true))/\OldK s₁.heap s'.heap/\s'.os=s₁.os/\AllBare s'.gens) s₁:=by
  intro H hO hS cI hA hK;have MM:∀{b:JY}{o:Obj},s₁.heap.get? b=some o->H b=none->(EK s₁.heap H).get? b=some o:=λe n=>Ow e n;have YV:∀{b:JY}{o:Obj}{es:Array DictEntry}{ep:Nat},s₁.heap.get? b=some o->o.data=.dict es ep->H b=none:=λ{b o es ep} e d=>by
   cases q:H b with
   |none=>rfl
   |some u =>
    have e':b=a:=hA b (by rw[q];simp);subst e';rw[ha]at e;cases e;have d':Data.seq vs.toArray _=Data.dict es ep:=d;cases d'
  have nsK:∀{b:JY}{m:Str->Option JZ},s₁.heap.Ns b m->(EK s₁.heap H).Ns b m:=λ{b m} ⟨o,es,ep,e,d,r⟩=>⟨o,es,ep,MM e (YV e d),d,r⟩;have hKb:K.In (EK s₁.heap H):=λb o e=>MM (KX b o e) (by
   cases q:H b with
   |none=>rfl
   |some u =>
    have e':b=a:=hA b (by rw[q];simp);subst e';rw[hK (by rw[q];simp)]at e;cases e)
  have hM:Mod K mg (EK s₁.heap H):=⟨hKb,nsK Yj,⟨mb,nsK hb,hbb⟩,let⟨mc,h1,h2⟩:=aBE;⟨mc,nsK h1,h2⟩⟩;have e0:KL P w K mg (EK s₁.heap H) callerA [] s₁ H:=⟨rfl,hM,λb o e=>Rx e,AA (NK _ _),trivial,λb hb=>absurd (show b∈([]:List JY)from hb) (by simp),cI,.of_eq hg⟩;refine jv ((F _ hKb (nsK Yj)).run callerA [] s₁ H ⟨[.ref a],[]⟩ [.ref a] [.ref a] _ _ hr e0 (Yk s₁ (.ref a)) (.cons rfl .nil) (MH H hO hS)) λr s' h=>?_;cases r with
  |error e=>exact(hCX H e s' h).elim
  |ok fl =>
   cases fl with
   |next=>exact False.elim h
   |brk=>exact False.elim h
   |cont=>exact False.elim h
   |ret u =>
    obtain⟨v,H',os,bare,un,aBH,r',q⟩:=h;have q':v=.bl true:=q;subst q';obtain rfl:u=Value.bool true:=r';refine⟨rfl,OldK.of_keep λb o e=>?_,os,bare⟩;cases q:H b with
    |none=>exact un.keep b o e q (by intro z;exact absurd (show b∈([]:List JY)from z) (by simp)) (by simp)
    |some u =>
     rcases hO b with z|⟨ob,xs,z⟩
     .rw[q]at z;cases z
     have z2:=un.EJ b ob _ z;obtain⟨e1,_⟩:=cI b _ z;obtain⟨e2,_⟩:=aBH b _ z2;rw[e]at e1;cases e1;exact e2
 cases hk:K.lookup a with
 |some o =>
  have e:=KX a o hk;rw[ha]at e;cases e;refine core (λ_=>none) (λ_=>.inl rfl) (.inr ⟨_,vs.toArray,_,hk,rfl,rfl,rfl,by rw[bo,aBG];exact hl,by simpa using rv⟩) (λb u z=>by have z':(none:Option HO)=some u:=z;cases z') (λb z=>absurd rfl z) λz=>absurd rfl z
 |none =>
  refine core (λb=>if b=a then some (.Rj {cls:=.type "list",data:=.seq vs.toArray} (.lst (ns.map V.int)))else none) (λb=>?_) (.inl (.inr ⟨{cls:=.type "list",data:=.seq vs.toArray},aL rfl⟩)) (λb u z=>?_) (λb z=>?_) λ_=>hk
  .by_cases hb:b=a
   .exact .inr ⟨_,_,aL hb⟩
   exact .inl (aK hb)
  .by_cases hb:b=a
   .have z':=(aL hb).symm.trans z;cases z';subst hb;exact⟨ha,by rw[aJ];exact hl,vs,_,rv,ha⟩
   have z':=(aK hb).symm.trans z;cases z'
  by_cases hb:b=a
  .exact hb
  exact absurd (aK hb) z
abbrev KOf{K:Ni}{h:Heap}(_:K.In h):Ni:=K
def SF{l:W.OpenLaw}{K:Params->Ni}{sp:Jb->Sp}(hn:l.most=some n)(hn2:n<=sizeLine)(Yi:d.params.defaults=[])(hr:fY k callerA)(hY:∀(w:Jb)(h:Heap),YP w h->(K w.params).In h)(F:∀(w:Jb)(mg:Str->Option JZ)(fa:JY)(h:Heap),(K w.params).In h->h.Ns mainGlobals mg->mg d.name=some (.ref fa) ->
   ∃fd:Jc,(∀(s:JX)(u:JZ),BindsTo s fd ⟨[u],[]⟩ [(x,u)]) /\
    ∀à:Heap,(K w.params).In à->à.Ns mainGlobals mg->cn l.prog w (K w.params) mg à (CX w) k fa fd [x] (sp w))(MH:∀(w:Jb)(H:Hp)(a:JY)(ns:List Int),ns.length<=n->WA H->aX (K w.params) H a (ns.map V.int)->sp w [.ref a] H (λv _=>v=.bl true) λ_ _ _=>False)(hCX:∀(w:Jb)(H:Hp)(s:JX)(e:JZ)(s':JX),CX w [] H s (λ_ _ _=>False) e s'->False):
  W.WalkO q loose XP YP l.row.toRowW d [] (λf vs=>PySem.call f vs):=by
 refine Att.Gg hn Yi λw s₀ s₁ mg mb fa o pm cd doc a vs ns G Y ho hd Cn V8 V9 hints lc hg=>?_;have KX:=hY w _ Y;obtain⟨fd,hb,hF⟩:=F w mg fa _ KX G.T.g V8;exact PN KX G.T.g G.T.b G.T.builtins G.T.nolimit hg V9 hints (iA lc hn2) hr hF hb (λH hO hS=>MH w H a ns lc hO hS) λH e s'=>hCX w H s₁ e s'
def gx(s:Stmt):Arguments:=match s with
 |.FunctionDef _ a _ _ _ _ _ _ _ _=>a
 |_=>{posonlyargs:=[],args:=[],vararg:=none,kwonlyargs:=[],kw_defaults:=[],kwarg:=none,defaults:=[]}
def dG(s:Stmt):List Stmt:=match s with
 |.FunctionDef _ _ b _ _ _ _ _ _ _=>b
 |_=>[]
def aH(s:Stmt):Scope:=match s with
 |.FunctionDef _ _ _ _ _ _ sc _ _ _=>sc
 |_=>{kind:=.function,names:=[],isGenerator:=false,isCoroutine:=false}
abbrev E0:XK:=λ_ _ _=>False
structure vA(K:Ni)(x qual:Str)(st:Stmt)(f:JY)(fd:Jc):Prop where
 ex:∃(oc:JZ)(od:Option JY)(kV doc pm:JZ)(an:Option JY)(bM ct:JZ)(GN:Array (Option JZ)),
  fd=W.fnOf x qual (gx st) (dG st) (aH st) .none kV doc pm an bM ct/\K.lookup f=some ⟨oc,od,.func fd,GN⟩/\W.codeIn K bM qual=true
 kp:W.keepIn K (.ref f)=true
section
variable{P:Ja}{K:Ni}
def vA.binds{f:JY}(F:vA K x qual st f fd)(h:∀(kV doc pm:JZ)(an:Option JY)(bM ct:JZ)(us:List JZ),us.length=ps.length->bindArgs (W.fnOf x qual (gx st) (dG st) (aH st) .none kV doc pm an bM ct) ⟨us,[]⟩=pure (ps.zip us)):ú K fd ps []:=by obtain⟨oc,od,kV,doc,pm,an,bM,ct,GN,rfl,lk,Cn⟩:=F.ex;exact .all (h kV doc pm an bM ct)
def KY{f:JY}{kV:JZ}(l:K.lookup f=some ⟨oc,od,.func (W.fnOf x qual (gx st) (dG st) (aH st) .none kV doc pm an bM ct),GN⟩)(c:W.codeIn K bM qual=true)(k:W.keepIn K (.ref f)=true):vA K x qual st f (W.fnOf x qual (gx st) (dG st) (aH st) .none kV doc pm an bM ct):=⟨⟨oc,od,kV,doc,pm,an,bM,ct,GN,rfl,l,c⟩,k⟩
end
def ie(hr:fY k A):A.units+1<cLine:=Nat.lt_of_le_of_lt (Nat.add_le_add_left (by decide:1<=64) _) hr.units
def pv(i:Nat)(hN:X.N[i]?=some x:=by rfl)(hv:X2 X.env.scope x:=by first|exact Or.inl rfl|exact Or.inr (Or.inl rfl)|exact Or.inr (Or.inr rfl))(hd:(x==("__debug__":Str))=false:=by decide)(Cn:(x==("__classdict__":Str))=false:=by decide):PE X (.Name x pos) (J5 i):=Vh hN hv hd Cn
def c9{A B:Prop}(h:B):if false=true then A else B:=by rw[aK cG];exact h
def ig{A B:Prop}(h:A):if true=true then A else B:=by rw[aL rfl];exact h
def WB{c A B:Prop}[Decidable c](h1:c->A)(h2:¬c->B):if c then A else B:=by
 by_cases h:c
 .rw[aL h];exact h1 h
 rw[aK h];exact h2 h
def aI(H H':Hp):Prop:=∀b o,H b=some o->H' b=some o
def aI.refl(H:Hp):aI H H:=λ_ _ h=>h
def aI.trans{H1 H2:Hp}(a:aI H H1)(b:aI H1 H2):aI H H2:=λc o h=>b c o (a c o h)
def aI.free(e:aI H H')(h:H' l=Option.none):H l=Option.none:=by
 cases q:H l with
 |none=>rfl
 |some o =>
  rw[e l o q]at h;cases h
def aI.seq{K:Ni}(e:aI H H')(h:aX K H a xs):aX K H' a xs:=by
 rcases h with(h|⟨o,h⟩)|h
 .exact .inl (.inl (e _ _ h))
 .exact .inl (.inr ⟨o,e _ _ h⟩)
 exact .inr h
def dA(env:Env):List (Str×NameKind)->List (Str×JY)->List (Str×JY)
 |[],ÿ=>ÿ
 | (n,k)::r,ÿ=>if k==.free then dA env r ((n,(env.cells.lookup n).getD 0)::ÿ)else dA env r ÿ
def uB{env:Env}:∀(names:List (Str×NameKind))(ÿ:List (Str×JY))(f:Str×NameKind->List (Str×JY)->Sem (ForInStep (List (Str×JY)))),
  (∀n k cs,f (n,k) cs=if k==.free then(do let c <- cellOf env n;pure (.yield ((n,c)::cs)))else pure (.yield cs)) ->
  (∀x∈names,x.2=.free->∃c,env.cells.lookup x.1=some c)->(forIn names ÿ f:Sem _)=pure (dA env names ÿ)
 |[],ÿ,f,_,_=>rfl
 | (n,k)::r,ÿ,f,hf,h=>by
  rw[wY,hf];unfold dA;by_cases hk:(k==.free)=true
  .rw[aL hk,aL hk];obtain⟨c,e⟩:=h (n,k) bp (fU.mp hk);have e':env.cells.lookup n=some c:=e;unfold cellOf;rw[e'];show(forIn r ((n,c)::ÿ) f:Sem _)=_;exact uB r _ f hf λx hx=>h x (bU _ hx)
  rw[aK hk,aK hk];show(forIn r ÿ f:Sem _)=_;exact uB r _ f hf λx hx=>h x (bU _ hx)
def AU(h:∀x∈scope.names,x.2=.free->∃c,env.cells.lookup x.1=some c):closureFor scope env=pure (dA env scope.names []):=by
 unfold closureFor;have e:=uB scope.names [] (λx cs=>if x.2==.free then(do let c <- cellOf env x.1;pure (.yield ((x.1,c)::cs)))else pure (.yield cs)) (λ_ _ _=>rfl) h
 show(forIn scope.names [] _ >>= λcs=>pure cs)=_;exact(vB e)
where
 vB {α:Type} {a:α} {t:Sem α} (e:t=pure a):(t >>= λx=>pure x)=pure a:=by rw[e];rfl
def dW{env:Env}{x:Str}{c:JY}:∀(names:List (Str×NameKind))(ÿ:List (Str×JY)),(∀y∈names,y.2=.free->∃c,env.cells.lookup y.1=some c) ->
  (∀c,ÿ.lookup x=some c->env.cells.lookup x=some c)->(dA env names ÿ).lookup x=some c->env.cells.lookup x=some c
 |[],ÿ,_,ha,h=>ha c h
 | (n,k)::r,ÿ,hn,ha,h=>by
  unfold dA at h;have hr:∀y∈r,y.2=.free->∃c,env.cells.lookup y.1=some c:=λy hy=>hn y (bU _ hy);by_cases hk:(k==.free)=true
  .rw[aL hk]at h;obtain⟨c',e⟩:=hn (n,k) bp (fU.mp hk);have e':env.cells.lookup n=some c':=e;rw[e']at h;refine dW r _ hr (λc2 q=>?_) h;rw[iZ]at q;cases hb:x==n with
   |true=>rw[hb]at q;cases q;rw[fU.mp hb];exact e'
   |false=>rw[hb]at q;exact ha c2 q
  rw[aK hk]at h;exact dW r _ hr ha h
def mw{env:Env}{x:Str}:∀(names:List (Str×NameKind))(ÿ:List (Str×JY)),((x,NameKind.free)∈names\/∃c,ÿ.lookup x=some c)->∃c,(dA env names ÿ).lookup x=some c
 |[],ÿ,h=>h.elim (λz=>by cases z) id
 | (n,k)::r,ÿ,h=>by
  unfold dA;by_cases hk:(k==.free)=true
  .rw[aL hk];refine mw r _ ?_;cases hb:x==n with
   |true=>exact .inr ⟨_,by rw[iZ,hb]⟩
   |false =>
    rcases h with h|⟨c,h⟩
    .rcases au.mp h with e|e
     .injection e with e1 _;rw[e1]at hb;simp at hb
     exact .inl e
    exact .inr ⟨c,by rw[iZ,hb];exact h⟩
  rw[aK hk];refine mw r _ ?_;rcases h with h|h
  .rcases au.mp h with e|e
   .injection e with _ e2;rw[<-e2]at hk;exact absurd rfl hk
   exact .inl e
  exact .inr h
def uC{x:Str}{c:JY}:∀(names:List (Str×NameKind))(n:Nat)(ÿ:List (Str×JY)),(cellsFrom n names ÿ).lookup x=some c->ÿ.lookup x=some c\/(n<=c/\(x,NameKind.cell)∈names)
 |[],_,_,h=>.inl h
 | (y,k)::r,n,ÿ,h=>by
  unfold cellsFrom at h;by_cases hk:(k==.cell)=true
  .rw[aL hk]at h;rcases uC r _ _ h with q|⟨q1,q2⟩
   .rw[iZ]at q;cases hb:x==y with
    |true=>rw[hb]at q;cases q;exact .inr ⟨ae _,by rw[fU.mp hb,fU.mp hk];exact bp⟩
    |false=>rw[hb]at q;exact .inl q
   exact .inr ⟨by lia,bU _ q2⟩
  rw[aK hk]at h;rcases uC r _ _ h with q|⟨q1,q2⟩
  .exact .inl q
  exact .inr ⟨q1,bU _ q2⟩
def qh{x:Str}{lo:Nat}:∀(names:List (Str×NameKind))(n:Nat)(ÿ:List (Str×JY)),lo<=n->((x,NameKind.cell)∈names\/∃c,ÿ.lookup x=some c/\lo<=c)->∃c,(cellsFrom n names ÿ).lookup x=some c/\lo<=c
 |[],_,_,_,h=>h.elim (λz=>by cases z) id
 | (y,k)::r,n,ÿ,hn,h=>by
  unfold cellsFrom;by_cases hk:(k==.cell)=true
  .rw[aL hk];refine qh r _ _ (by lia) ?_;cases hb:x==y with
   |true=>exact .inr ⟨n,by rw[iZ,hb],hn⟩
   |false =>
    rcases h with h|⟨c,h,hc⟩
    .rcases au.mp h with e|e
     .injection e with e1 _;rw[e1]at hb;simp at hb
     exact .inl e
    exact .inr ⟨c,by rw[iZ,hb];exact h,hc⟩
  rw[aK hk];refine qh r _ _ hn ?_;rcases h with h|h
  .rcases au.mp h with e|e
   .injection e with _ e2;rw[<-e2]at hk;exact absurd rfl hk
   exact .inl e
  exact .inr h
def mx{x:Str}:∀(names:List (Str×NameKind))(n:Nat)(ÿ:List (Str×JY)),(x,NameKind.cell)∉names->(cellsFrom n names ÿ).lookup x=ÿ.lookup x
 |[],_,_,_=>rfl
 | (y,k)::r,n,ÿ,h=>by
  unfold cellsFrom;have hr:(x,NameKind.cell)∉r:=λz=>h (bU _ z);by_cases hk:(k==.cell)=true
  .rw[aL hk,mx r _ _ hr,iZ];cases hb:x==y with
   |true=>exact absurd (by rw[fU.mp hb,fU.mp hk];exact bp) h
   |false=>rfl
  rw[aK hk];exact mx r _ _ hr
def xA:∀(names:List (Str×NameKind))(n:Nat)(ÿ:List (Str×JY)),(∀x c,ÿ.lookup x=some c->c<n)->(∀x y c,ÿ.lookup x=some c->ÿ.lookup y=some c->x=y) ->
  ∀x y c,(cellsFrom n names ÿ).lookup x=some c->(cellsFrom n names ÿ).lookup y=some c->x=y
 |[],_,_,_,h=>h
 | (z,k)::r,n,ÿ,jz,h=>by
  unfold cellsFrom;by_cases hk:(k==.cell)=true
  .rw[aL hk];refine xA r (n+1) _ (λx c e=>?_) λx y c e1 e2=>?_
   .rw[iZ]at e;cases hb:x==z with
    |true=>rw[hb]at e;cases e;exact om _
    |false=>rw[hb]at e;exact rW (jz x c e)
   rw[iZ]at e1 e2;cases hb:x==z with
   |true =>
    rw[hb]at e1;cases e1;cases WC:y==z with
    |true=>rw[fU.mp hb,fU.mp WC]
    |false=>rw[WC]at e2;exact absurd (jz y _ e2) (gR _)
   |false =>
    rw[hb]at e1;cases WC:y==z with
    |true=>rw[WC]at e2;cases e2;exact absurd (jz x _ e1) (gR _)
    |false=>rw[WC]at e2;exact h x y c e1 e2
  rw[aK hk];exact xA r n _ jz h
def lD{x:Str}{c:JY}:∀(names:List (Str×NameKind))(h:Heap)(ÿ:List (Str×JY)),(∀y c,ÿ.lookup y=some c->∃v,h.IsCell c v) ->
  (cellsFrom h.objs.size names ÿ).lookup x=some c->∃v,(pushCells h names).IsCell c v
 |[],h,ÿ,ha,e=>ha x c e
 | (y,k)::r,h,ÿ,ha,e=>by
  unfold cellsFrom at e;unfold pushCells;by_cases hk:(k==.cell)=true
  .rw[aL hk]at e ⊢;rw[show h.objs.size+1=(h.push {cls:=.type "cell",data:=.cell none}).objs.size from(ib ..).symm]at e;refine lD r _ _ (λz c' q=>?_) e;rw[iZ]at q;cases hb:z==y with
   |true=>rw[hb]at q;cases q;exact⟨none,_,bK _ rfl,rfl⟩
   |false =>
    rw[hb]at q;obtain⟨v,w⟩:=ha z c' q;exact⟨v,w.keeps λb o e=>bG _ e⟩
  rw[aK hk]at e ⊢;exact lD r _ _ ha e
section
variable{M:Model}
def Gh{Q:Env->JX->Prop}(h:Q {scope,locals:=s.heap.objs.size,globals,cells:=cellsFrom (s.heap.objs.size+1) scope.names cl,qual,func:=none,code:=env.code,frame:=env.frame,builtins:=env.builtins}
   {s with heap:=pushCells (s.heap.push ox) scope.names}):
  wpAny M A (newFunctionEnv scope globals cl [] qual none .none (some env)) Q E s:=by
 simp only[newFunctionEnv,Option.isSome_some,iE];refine aG (wpAny_alloc ?_);refine aG (wpAny_layCells _ (λname kind cells=>by cases hkc:kind==NameKind.cell<;>simp[hkc]) _ _ _ _ ?_);rw[show({s with heap:=s.heap.push ox}:JX).heap.objs.size=s.heap.objs.size+1 from ib ..];refine aG ?_;rw[we];exact aS (aS h)
end
def Ea{target:Expr}{it ÿ:JZ}(I:Nat->JX->Prop)(turn:∀n s,I n s->wpAny (model prog w) A (pyNext it) (λr s₁=>match r with
   |none=>R (.ok .next) s₁
   |some v=>wpAny (model prog w) A (letOwnedTupleGo target it v) (λ_ s₁'=>wpAny (model prog w) A (assign target env v) (λ_ s₂ =>
     wpAny (model prog w) A (forIn ifs true λc r=>if r=true then do let ok <- isTrue c env (eval c env);pure (ForInStep.yield ok)else pure (ForInStep.yield r)) (λok s₃ =>
      if ok=true then wpAny (model prog w) A (eval elt env) (λx s₄ =>
       wpAny (model prog w) A (call (.builtin "list.append") [ÿ,x]) (λ_ s₅=>∃m,m<n/\I m s₅) (λ_ _=>False) s₄) (λ_ _=>False) s₃
      else ∃m,m<n/\I m s₃) (λ_ _=>False) s₂) (λ_ _=>False) s₁') (λ_ _=>False) s₁) (λ_ _=>False) s)(n:Nat)(h:I n s):
  codeAny (model prog w) A (.compLoop (.ListComp elt [⟨target,iter,ifs,0⟩] scope pos) 0 it ÿ env) R s:=by
 refine codeAny_loop rfl I (λn s hI=>?_) n h;show wpAny _ A ((compTurn (.ListComp elt [⟨target,iter,ifs,0⟩] scope pos) 0 it ÿ env).onRaise (λx=>do noteFrame x env;theTreesLotGoes x)) _ _ s
 refine wpAny_noted ?_;rw[compTurn_list];refine aG (wpAny_standAt (aG (gW (turn n s hI) (λr s₁ h₁=>?_) λ_ _ h'=>h'.elim)));cases r with
 |none=>exact aS h₁
 |some v =>
  refine aG (gW h₁ (λ_ s₁' h₁'=>?_) λ_ _ h'=>h'.elim);refine aG (gW h₁' (λ_ s₂ h₂=>aG (gW h₂ (λok s₃ h₃=>?_) λ_ _ h'=>h'.elim)) λ_ _ h'=>h'.elim);cases ok with
  |false=>exact aS ⟨rfl,h₃⟩
  |true =>
   exact aG (aG (gW h₃ (λx s₄ h₄=>aG (gW h₄ (λ_ s₅ h₅=>aS (aS ⟨rfl,h₅⟩)) λ_ _ h'=>h'.elim)) λ_ _ h'=>h'.elim))
def yf(X:Cx)(Nc:List Str)(scope:Scope)(C:JY)(fp:List JY)(s:JX)(H:Hp):Cx where
 prog:=X.prog
 w:=X.w
 K:=X.K
 mg:=X.mg
 à:=X.à
 A:=X.A
 N:=Nc
 s₀:=s
 H₀:=H
 env:=compEnvC scope (cellsFrom (C+1) scope.names (dA X.env scope.names [])) C X.env
 á:=X.stack
 stack:=X.stack
 ex:=fp
 fn:=λx=>scope.names.contains (x,NameKind.cell)
 calm:=X.calm
 pn:=[]
 xe:=λ_ _=>False
structure gZ(X:Cx)(Nc:List Str)(ix:List (Option Nat))(scope:Scope):Prop where
 kind:scope.kind=.function
 nd:Nc.Nodup
 len:ix.length=Nc.length
 loc:∀x∈scope.names,x.2=.local->scope.names.lookup x.1=some .local
 free:∀x∈scope.names,x.2=.free->X.env.kindOf x.1=some .cell\/X.env.kindOf x.1=some .free
 once:∀x,(x,NameKind.free)∈scope.names->(x,NameKind.cell)∉scope.names
 out:∀(i j:Nat)(x:Str),ix[i]?=some (some j)->Nc[i]?=some x->X.N[j]?=some x/\scope.names.lookup x=some .free
def AV(ix:List (Option Nat))(Z:St):St:=ix.map λo=>o.bind λj=>(Z[j]?).bind id
def mz{env:Env}{x:Str}:∀{names:List (Str×NameKind)}{k:NameKind},names.lookup x=some k ->
  (names.map λ(n,k)=>if(k==NameKind.free&&env.scope.kind==.function&&env.kindOf n==some .cell)then(n,NameKind.cell)else(n,k)).lookup x =
   some (if(k==NameKind.free&&env.scope.kind==.function&&env.kindOf x==some .cell)then NameKind.cell else k)
 |[],_,h=>by simp at h
 | (n,k')::r,k,h=>by
  show List.lookup x ((if(k'==NameKind.free&&env.scope.kind==.function&&env.kindOf n==some .cell)=true then(n,NameKind.cell)else(n,k'))::_)=_;cases hx:x==n with
  |true =>
   simp only[iZ,hx]at h;cases h;have e:=fU.mp hx;subst e;split<;>simp[iZ]
  |false =>
   simp only[iZ,hx]at h;have ih:=mz (env:=env) (names:=r) h;split<;>(simp only[iZ,hx];exact ih)
def vC{env:Env}{x:Str}:∀{names:List (Str×NameKind)},names.lookup x=none ->
  (names.map λ(n,k)=>if(k==NameKind.free&&env.scope.kind==.function&&env.kindOf n==some .cell)then(n,NameKind.cell)else(n,k)).lookup x=none
 |[],_=>rfl
 | (n,k')::r,h=>by
  show List.lookup x ((if(k'==NameKind.free&&env.scope.kind==.function&&env.kindOf n==some .cell)=true then(n,NameKind.cell)else(n,k'))::_)=_;cases hx:x==n with
  |true=>simp only[iZ,hx]at h;cases h
  |false =>
   simp only[iZ,hx]at h;have ih:=vC (env:=env) (names:=r) h;split<;>(simp only[iZ,hx];exact ih)
def gZ.cells(S:gZ X Nc ix scope)(I:â X bv Z H s):∀x∈scope.names,x.2=.free->∃c,X.env.cells.lookup x.1=some c:=λx hx hf=>I.ok.has x.1 (S.free x hx hf)
def Cy(S:gZ X Nc ix scope)(I:â X bv Z H s){c:JY}(e:(cellsFrom (C+1) scope.names (dA X.env scope.names [])).lookup x=some c):
  X.env.cells.lookup x=some c\/(C+1<=c/\(x,NameKind.cell)∈scope.names):=by
 rcases uC _ _ _ e with q|q
 .exact .inl (dW _ _ (S.cells I) (λ_ z=>by simp at z) q)
 exact .inr q
def PQ(S:gZ X Nc ix scope)(I:â X bv Z H s)(Yl:∀b∈fp,wu X bv H b)(ho:∀b∈fp,∃o,s.heap.get? b=some o):
  â (yf X Nc scope (s.heap.objs.size+1) fp s H) [] (AV ix Z) (ü H s.heap.objs.size (.lst []))
   {s with heap:=pushCells ((s.heap.push AH).push ox) scope.names,toks:=t'}:=by
 have keep:∀b o,s.heap.get? b=some o->(pushCells ((s.heap.push AH).push ox) scope.names).get? b=some o :=
  λb o e=>D8 _ _ b o (bG _ (bG _ e))
 have hD:(pushCells ((s.heap.push AH).push ox) scope.names).get? s.heap.objs.size =
   some AH:=D8 _ _ _ _ (bG _ (bK _ rfl))
 have hsz:(s.heap.push AH).objs.size=s.heap.objs.size+1:=ib ..;have fresh:∀a:JY,s.heap.objs.size<=a->H a=none:=λa h=>I.cI.fresh h;have Rm:∀x c,X.env.cells.lookup x=some c->c<s.heap.objs.size:=λx c e=>let⟨_,q⟩:=I.cell x c e;q.lt;have clt:∀x c,(dA X.env scope.names []).lookup x=some c->c<s.heap.objs.size+1+1:=λx c e =>
  rW (rW (Rm x c (dW _ _ (S.cells I) (λ_ z=>by simp at z) e)))
 have aBJ:∀x y c,(dA X.env scope.names []).lookup x=some c->(dA X.env scope.names []).lookup y=some c->x=y:=λx y c e1 e2 =>
  I.ok.inj x y c (dW _ _ (S.cells I) (λ_ z=>by simp at z) e1) (dW _ _ (S.cells I) (λ_ z=>by simp at z) e2)
 refine⟨⟨I.ok.mod,S.kind,I.ok.glob,I.ok.blt,gq _,xA _ _ _ clt aBJ,λx hx=>?has,λx c hf e=>?Ve,I.ok.hd,I.ok.frames,.inl rfl,λb hb=>?X3,I.bs,iA I.ok.Ry I.sz,λb o e hb=>?J1,λb hb hs=>?J2,I.stack,I.MB⟩,
  rfl,I.bare,Un.laid keep (ae _) (fresh _ (ae _)),⟨λ_=>none,?ns,λi x v e1 e2 e3=>?loc⟩,λx c e=>?cell,?free,λx c e=>?oO,λp hp=>absurd (show p∈([]:List (JY×Obj))from hp) (by simp),I.cI.laid keep (ae _) ?obj,?len⟩
 case has =>
  have hx:(relabel scope X.env).names.lookup x=some .cell\/(relabel scope X.env).names.lookup x=some .free:=hx;show ∃c,(cellsFrom (s.heap.objs.size+1+1) scope.names (dA X.env scope.names [])).lookup x=some c;cases hk:scope.names.lookup x with
  |none =>
   rw[show(relabel scope X.env).names.lookup x=none from vC hk]at hx;rcases hx with z|z<;>cases z
  |some k =>
   have hm:=tL hk;rw[show(relabel scope X.env).names.lookup x=_ from mz hk]at hx;cases k with
   |cell=>obtain⟨c,e,_⟩:=qh (x:=x) (lo:=0) scope.names (s.heap.objs.size+1+1) (dA X.env scope.names []) (bt _) (.inl hm);exact⟨c,e⟩
   |free =>
    obtain⟨c,e⟩:=mw (env:=X.env) (x:=x) scope.names [] (.inl hm);exact⟨c,by rw[mx _ _ _ (S.once x hm)];exact e⟩
   |_=>rcases hx with z|z<;>simp at z
 case Ve =>
  have hm:(x,NameKind.cell)∈scope.names:=List.contains_iff_mem.mp hf;obtain⟨c',e',hc⟩:=qh (x:=x) (lo:=s.heap.objs.size+1+1) scope.names (s.heap.objs.size+1+1) (dA X.env scope.names []) (ae _) (.inl hm);have e2:(cellsFrom (s.heap.objs.size+1+1) scope.names (dA X.env scope.names [])).lookup x=some c:=e;rw[e']at e2;cases e2;exact iA (iA (gq _) (gq _)) hc
 case X3 =>
  obtain⟨o,eo⟩:=ho b hb;have jz:=bC eo;refine⟨cg (rW jz),λx c e=>?_⟩;rcases Cy S I e with q|⟨q,_⟩
  .exact(Yl b hb).2.2.2.2.1 x c q
  exact ju (fS (rW (rW jz)) q)
 case J1 =>
  obtain⟨_,_,_,q,_⟩:=Yl b hb;rcases q with q|q
  .exact I.ok.J1 b o e q
  exact absurd (fS (fS (bC e) I.ok.Ry) q) (gR _)
 case J2 =>
  obtain⟨_,q1,q2,_⟩:=Yl b hb;rcases au.mp (I.J3 b hs)with z|z
  .exact q1 z
  exact q2 z
 case ns =>
  refine Heap.Ns.keeps (h:=(s.heap.push AH).push ox) ?_ (D8 _ _);have q:=Heap.Ns.new (s.heap.push AH) (.type "dict");rw[hsz]at q;exact q
 case loc =>
  have Ut:(ix.map λo=>o.bind λj=>(Z[j]?).bind id)[i]?=some (some v):=e2;rw[bh]at Ut;cases ei:ix[i]? with
  |none=>rw[ei]at Ut;cases Ut
  |some o =>
   rw[ei]at Ut;cases o with
   |none=>simp at Ut
   |some j =>
    obtain⟨hN,MN⟩:=S.out i j x ei e1;have ej:Z[j]?=some (some v):=by
     cases q:Z[j]? with
     |none=>simp[q]at Ut
     |some y=>simp[q]at Ut;rw[Ut]
    have hm:=tL MN;have aBK:X2 X.env.scope x:=by
     rcases S.free (x,.free) hm rfl with z|z
     .exact .inr (.inl z)
     exact .inr (.inr z)
    obtain⟨m0,hn0,hl0⟩:=I.loc;obtain⟨u,r,l⟩:=hl0 j x v hN ej aBK;refine⟨u,r,?_⟩;have hk:X.env.kindOf x=some .cell\/X.env.kindOf x=some .free:=S.free (x,.free) hm rfl;rcases l with⟨z,_⟩|⟨_,c,ec,Co⟩
    .rcases hk with y|y<;>(rw[z]at y;cases y)
    refine .inr ⟨?_,c,?_,Co.keeps keep⟩
    .show(relabel scope X.env).names.lookup x=_\/(relabel scope X.env).names.lookup x=_;rw[show(relabel scope X.env).names.lookup x=_ from mz MN];split
     .exact .inl rfl
     exact .inr rfl
    show(cellsFrom (s.heap.objs.size+1+1) scope.names (dA X.env scope.names [])).lookup x=some c;rw[mx _ _ _ (S.once x hm)];obtain⟨c',e'⟩:=mw (env:=X.env) (x:=x) scope.names [] (.inl hm);have q:=dW _ _ (S.cells I) (λ_ z=>by simp at z) e';rw[ec]at q;cases q;exact e'
 case cell =>
  have q:=lD (x:=x) (c:=c) scope.names ((s.heap.push AH).push ox) (dA X.env scope.names [])
   (λy c' e'=>by obtain⟨v,z⟩:=I.cell y c' (dW _ _ (S.cells I) (λ_ z=>by simp at z) e');exact⟨v,z.keeps λb o e=>bG _ (bG _ e)⟩)
  rw[ib,hsz]at q;exact q e
 case free =>
  show ü H s.heap.objs.size (.lst []) (s.heap.objs.size+1)=none;rw[aN (Nat.succ_ne_self _)];exact fresh _ (gq _)
 case oO =>
  rcases Cy S I e with q|⟨q,_⟩
  .rw[aN (cg (Rm x c q))];exact I.oO x c q
  have h1:s.heap.objs.size<c:=fS (rW (om _)) q;rw[aN (ju h1)];exact fresh c (gT h1)
 case obj=>exact⟨bt _,[],0,.nil,hD⟩
 case len =>
  show(AV ix Z).length=Nc.length;unfold AV;rw[aJ,S.len]
def WD(X:Cx)(ifs:List Expr)(t:TT):Prop :=
 ∀(bv:List (JY×Obj))(s:JX)(Z:St)(H:Hp)(Q:Bool->Hp->Prop),â X bv Z H s->t Z H Q ->
  wX X (forIn ifs true λc r=>if r=true then do let ok <- isTrue c X.env (eval c X.env);pure (ForInStep.yield ok)else pure (ForInStep.yield r)) (TP X bv Z Q) X.xe s
def WE:TT:=λ_ H Q=>Q true H
def bN:WD X [] WE:=λ_ _ _ H _ I h=>wpAny_tests_nil ⟨H,I,h⟩
def zA{c:Expr}{t:TT}(h:PT X c t):WD X [c] t:=λbv s Z H Q I hw=>wpAny_tests_one (h bv s Z H Q I hw)
def oP(J:It)(g:TG)(tt:TT)(te:TE)(D:JY)(Z:St)(H:Hp)(Q:VK):Prop:=∃W:Nat->Nat->St->Hp->Prop,(∃m,W 0 m Z H)/\∀i m Z' H',W i m Z' H' ->
 (J.stop i H'/\Q (.ref D) H')\/(J.go i H'/\∀x H2,J.Rn i H' x H2->g x Z' H2 λσ3 H3=>tt σ3 H3 λb H4 =>
  if b=true then te σ3 H4 λv H5=>∃xs,H5 D=some (.lst xs)/\xs.length<sizeLine/\∃m',m'<m/\W (i+1) m' σ3 (ü H5 D (.lst (xs++[v])))
  else ∃m',m'<m/\W (i+1) m' σ3 H4)
def tLC(wi:TI)(ix:List (Option Nat))(g:TG)(tt:TT)(te:TE):TE:=λZ H Q=>wi Z H λJ H1=>∀D,H1 D=none->oP J g tt te D (AV ix Z) (ü H1 D (.lst [])) Q
section
variable{tg:Expr}{wi:TI}
def Gi{tn:Nat->Heap->Prop}{R:JZ->JY->Result->JX->Prop}(hc:X.calm=true)(S:gZ X Nc ix scope)(I:â X bv Z H s)(T:î X.prog X.w X.K tg J fp it tn)(st:tn 0 s.heap)(f:∀b∈fp,wu X bv H b)(hg:PG (yf X Nc scope (s.heap.objs.size+1) fp s H) tg g)(ht:WD (yf X Nc scope (s.heap.objs.size+1) fp s H) ifs tt)(he:PE (yf X Nc scope (s.heap.objs.size+1) fp s H) elt te)(h:∀D,H D=none->∃W:Nat->Nat->St->Hp->Prop,(∃m,W 0 m (AV ix Z) (ü H D (.lst [])))/\∀i m Z' H',W i m Z' H' ->
   (J.stop i H'/\Q (.ref D) H')\/(J.go i H'/\∀x H2,J.Rn i H' x H2->g x Z' H2 λσ3 H3=>tt σ3 H3 λb H4 =>
    if b=true then te σ3 H4 λv H5=>∃xs,H5 D=some (.lst xs)/\xs.length<sizeLine/\∃m',m'<m/\W (i+1) m' σ3 (ü H5 D (.lst (xs++[v])))
    else ∃m',m'<m/\W (i+1) m' σ3 H4))(hR:∀Z' H' s',â (yf X Nc scope (s.heap.objs.size+1) fp s H) [] Z' H' s'->(∀b∈fp,H' b=none)->Q (.ref s.heap.objs.size) H'->R (.ref s.heap.objs.size) (s.heap.objs.size+1) (.ok .next) s'):
  wX X (newList []) (λÿ s₃=>wX X (newFunctionEnv scope X.env.globals (dA X.env scope.names []) [] X.env.qual none .none (some X.env)) (λYm s₄ =>
   codeAny (model X.prog X.w) X.A (.compStart (.ListComp elt [⟨tg,iter,ifs,0⟩] scope pos) 0 (.ref it) ÿ {Ym with scope:=relabel scope X.env}) (R ÿ Ym.locals) s₄) X.xe s₃) X.xe s:=by
 obtain⟨W,⟨m0,w0⟩,turn⟩:=h s.heap.objs.size (I.cI.fresh (ae _));refine jI (Gh ?_);have I4:=PQ (t':=s.toks) S I f (λb hb=>let⟨o,e,_⟩:=T.obj _ _ st b hb;⟨o,e⟩);have hsz:(s.heap.push AH).objs.size=s.heap.objs.size+1:=ib ..;dsimp only;rw[hsz];have SG:tn 0 (pushCells ((s.heap.push AH).push ox) scope.names) :=
  T.keep _ _ _ st λb _ o e=>D8 _ _ b o (bG _ (bG _ e))
 have fr4:∀b∈fp,ü H s.heap.objs.size (.lst []) b=none:=λb hb=>by obtain⟨o,e,_⟩:=T.obj _ _ st b hb;rw[aN (cg (bC e))];exact(f b hb).1
 have J9:∀{H':Hp},(∀b∈fp,H' b=none)->∀b∈fp,wu (yf X Nc scope (s.heap.objs.size+1) fp s H) [] H' b:=λ{H'} hn b hb=>by obtain⟨q1,q2⟩:=I4.ok.X3 b hb;exact⟨hn b hb,q1,I4.ok.J2 b hb,.inl hb,q2,λp hp=>absurd (show p∈([]:List (JY×Obj))from hp) (by simp)⟩
 have loop:codeAny (model X.prog X.w) X.A (.compLoop (.ListComp elt [⟨tg,iter,ifs,0⟩] scope pos) 0 (.ref it) (.ref s.heap.objs.size) (yf X Nc scope (s.heap.objs.size+1) fp s H).env)
   (R (.ref s.heap.objs.size) (s.heap.objs.size+1))
   {s with heap:=pushCells ((s.heap.push AH).push ox) scope.names}:=by
  refine Ea (λn s'=>∃i Z' H',â (yf X Nc scope (s.heap.objs.size+1) fp s H) [] Z' H' s'/\tn i s'.heap/\(∀b∈fp,H' b=none)/\W i n Z' H') ?_ m0 ⟨0,_,_,I4,SG,fr4,w0⟩;rintro n s5 ⟨i,σ5,H5,I5,Bz,YJ,w5⟩;rcases turn i n σ5 H5 w5 with⟨stop,qn⟩|⟨go,step⟩
  .refine cC (T.done (yf X Nc scope (s.heap.objs.size+1) fp s H) rfl rfl rfl hc i [] s5 σ5 H5 _ I5 (J9 YJ) Bz stop) λr s6 ⟨hr,I6⟩=>?_;subst hr;exact hR σ5 H5 s6 I6 YJ qn
  refine cC (T.item (yf X Nc scope (s.heap.objs.size+1) fp s H) rfl rfl rfl hc i [] s5 σ5 H5 _ I5 (J9 YJ) Bz go) λr s6 ⟨u,hr,h6⟩=>?_;subst hr;refine cC h6 λ_ s7 h_=>?_;obtain⟨x,H7,I7,r7,y7,MO,fr7⟩:=h_;have I7':=I7.pinned (J9 fr7) (T.obj _ _ MO);refine cC (hg _ s7 σ5 H7 x u _ I7' r7 (step x H7 y7)) λ_ s8 ⟨σ8,H8,I8,q8⟩=>?_;refine cC (ht _ s8 σ8 H8 _ I8 q8) λb s9 ⟨H9,I9,q9⟩=>?_;have again:∀{s':JX}{Z':St}{H':Hp},â (yf X Nc scope (s.heap.objs.size+1) fp s H) ([]++AM fp s7.heap) Z' H' s'->tn (i+1) s'.heap/\∀b∈fp,H' b=none:=λ{s' Z' H'} I'=>by refine⟨T.keep _ _ _ MO λb hb o e=>(I'.pin (b,o) (ls _ (ls _ (mo hb e)))).1,λb hb=>?_⟩;obtain⟨o,e,d⟩:=T.obj _ _ MO b hb;exact(I'.pin (b,o) (ls _ (ls _ (mo hb e)))).2.1
  cases b with
  |false =>
   rw[aK cG]at q9 ⊢;obtain⟨m',hm,w9⟩:=q9;obtain⟨a1,a2⟩:=again I9;exact⟨m',hm,i+1,σ8,H9,I9.oz,a1,a2,w9⟩
  |true =>
   rw[aL rfl]at q9 ⊢;refine cC (he _ s9 σ8 H9 _ I9 q9) λv GO h_=>?_;obtain⟨x',PR,I10,r10,xs,eD,jz,m',hm,w10⟩:=h_;refine cC (fK (X:=yf X Nc scope (s.heap.objs.size+1) fp s H) _ GO σ8 PR (.ref s.heap.objs.size) [x'] (.ref s.heap.objs.size) [v] (λ_ H'=>H'=ü PR s.heap.objs.size (.lst (xs++[x']))) I10 rfl (.cons r10 .nil)
    ⟨_,xs,x',rfl,rfl,eD,jz,rfl⟩) λ_ WG ⟨_,H11,I11,_,e11⟩=>?_
   subst e11;obtain⟨a1,a2⟩:=again I11;exact⟨m',hm,i+1,σ8,_,I11.oz,a1,a2,w10⟩
 exact codeAny_compStart_list loop (T.self X.A 0 _ _ _ SG loop)
def comp_back{Z':St}{s':JX}(I:â X bv Z H s)(f:∀b∈fp,wu X bv H b)(J:â (yf X Nc scope (s.heap.objs.size+1) fp s H) [] Z' H' s'):â X bv Z H' s' :=
 I.Ox (ch:=fp) J.os J.à J.cI J.bare λb hb=>let⟨_,q1,_,q3,q4,q5⟩:=f b hb;⟨q3,q1,q4,q5⟩
def â.Uu(I:â X bv Z H s)(f:wu X bv H C)(hs:Heap.SameBut C s.heap h'):â X bv Z H {s with heap:=h'} :=
 I.turned (t':=s.toks) (it:=C) (λb o hb e=>(hs.2 b hb).trans e) f.1 f.2.1 f.2.2.2.1 f.2.2.2.2.1 f.2.2.2.2.2
def AW(hc:X.calm=true)(S:gZ X Nc ix scope)(hi:PI X tg iter wi)(hb:∀(C:JY)(fp:List JY)(s:JX)(H:Hp),PG (yf X Nc scope C fp s H) tg g/\WD (yf X Nc scope C fp s H) ifs tt/\PE (yf X Nc scope C fp s H) elt te)(hs:∀x,foldedSetIterable iter X.env x=pure x:=by intro _;rfl):PE X (.ListComp elt [⟨tg,iter,ifs,0⟩] scope pos) (tLC wi ix g tt te):=by intro bv s Z H Q I h;rw[eval_ListComp];refine wpAny_comprehension_free (use:=none) rfl hs (AU (S.cells I)) S.kind S.loc (cC (hi bv s Z H _ I h) λv s1 h1=>cC h1 λitv s2 h2=>?_);obtain⟨it,fp,tn,J,H2,e,I2,T,GK,f2,q2⟩:=h2;subst e;obtain⟨hg,ht,he⟩:=hb (s2.heap.objs.size+1) fp s2 H2;refine Gi (R:=λÿ C=>compPost (model X.prog X.w) X.A X.xe none (EP X bv Z Q) ÿ C) hc S I2 T GK f2 hg ht he q2 λZ' H' s' J' fr' q'=>?_;obtain⟨m,hn,_⟩:=J'.loc;refine⟨m,hn,λh' rg=>⟨.ref _,H',?_,rfl,q'⟩⟩;exact(comp_back I2 f2 J').Uu (I2.yb (gq _) J'.free) rg
def vD{PU:Pos}(hN:X.N.Nodup)(hy:X.N[i]?=some y)(hl:í X.env.scope y)(hc:X.calm=true)(S:gZ X Nc ix scope)(hi:PI X tg iter wi)(hb:∀(C:JY)(fp:List JY)(s:JX)(H:Hp),PG (yf X Nc scope C fp s H) tg g/\WD (yf X Nc scope C fp s H) ifs tt/\PE (yf X Nc scope C fp s H) elt te)(Xe:swapsWith (.ListComp elt [⟨tg,iter,ifs,0⟩] scope pos) (some (.Name y py)) PU.line X.env=pure true:=by rfl)(hs:∀x,foldedSetIterable iter X.env x=pure x:=by intro _;rfl)(hf:X.fn y=true\/X.env.scope.names.lookup y=some .local:=by first|exact .inl rfl|exact .inr rfl|assumption):
  PS X (.Assign [.Name y py] (.ListComp elt [⟨tg,iter,ifs,0⟩] scope pos) PU) (O0 (tLC wi ix g tt te) (gX i)):=by
 intro bv s Z H D I h;rw[exec_Assign_Name_used _ _ _ _ Xe];refine aG (wpAny_standAt (aG ?_));show wpAny _ X.A (do let _ <- comprehension (.ListComp elt [⟨tg,iter,ifs,0⟩] scope pos) scope X.env _ (newList []) false (eval iter X.env) (some (assign (.Name y py) X.env))) _ _ s
 refine aG (gW (wpAny_comprehension_free (use:=some (assign (.Name y py) X.env)) (Q:=λ_ s'=>SP X bv D .next s') rfl hs (AU (S.cells I)) S.kind S.loc
  (cC (hi bv s Z H _ I h) λv s1 h1=>cC h1 λitv s2 h2=>?_)) (λ_ s' hq=>aS (aS hq)) λ_ _ e=>e)
 obtain⟨it,fp,tn,J,H2,e,I2,T,GK,f2,q2⟩:=h2;subst e;obtain⟨hg,ht,he⟩:=hb (s2.heap.objs.size+1) fp s2 H2;refine Gi (Q:=λx H1=>gX i x Z H1 D.nx) (R:=λÿ C=>compPost (model X.prog X.w) X.A X.xe (some (assign (.Name y py) X.env)) (λ_ s'=>SP X bv D .next s') ÿ C) hc S I2 T GK f2 hg ht he q2 λZ' H' s' J' fr' q'=>?_;obtain⟨m,hn,_⟩:=J'.loc;have I3:=comp_back I2 f2 J';have fC:=I2.yb (gq _) J'.free;show wpAny _ X.A (assign (.Name y py) X.env (.ref s2.heap.objs.size)) _ _ s';refine wpAny_assign_Name (Cm (v:=.ref s2.heap.objs.size) I3 hN hy hl rfl (λs4 I4 ⟨a,rj,ha⟩=>?_) hf);have haC:s2.heap.objs.size+1≠a:=by
  rcases ha with z|z
  .rw[z];exact fC.2.1
  exact bS (fC.2.2.2.2.1 y a z)
 refine⟨m,hn.sameBut rj haC,λh' rg=>⟨_,H',I4.Uu fC rg,q'⟩⟩
end
structure WH(P:Ja)(w:Jb)(á:List Env)(H:Hp)(s:JX)(a C:JY)(a0:JZ)(B:Heap)(H':Hp)(s':JX):Prop where
 os:s'.os=s.os
 bare:AllBare s'.gens
 un:Un (NL á) [] H H' s.heap s'.heap
 cI:tZ P w H' s'.heap
 fly:Heap.FlyingW B á a (.ref C) a0 s'.heap
 cov:∀b o,s.heap.get? b=some o->b∉NL á->∃o',B.get? b=some o'
 X1:∀b u,H' b=some u->∃o',B.get? b=some o'
def oV(P:Ja)(w:Jb):KJ:=λá H s E e s'=>∃(a C:JY)(a0:JZ)(B:Heap)(H':Hp),e=.ref a/\WH P w á H s a C a0 B H' s'/\E (.ref C) none H'
section
variable{E:XK}
end
section
variable{E:XK}
end
section
variable{g:Array GenState}{d:Drawn}{t:Nat}{os:OsState}{K:Ni}
end
def PS.J7(h:PS X.J7 st t):PS X st t:=λbv s Z H D I hw =>
 gW (h bv s Z H D (I.AJ _) hw) (λ_ _ q=>q.mn) λ_ _ z=>False.elim z
def eG:o6 (oV X.prog X.w) X E0:=λ_ _ _ _ _ _ _ h=>by obtain⟨_,_,_,_,_,_,_,q⟩:=h;exact q.elim
structure ã(P:Ja)(w:Jb)(K:Ni)(mg:Str->Option JZ)(à:Heap)(k:Nat)(x:Str)(ps:List Str)(sp:Sp):Prop where
 ex:∃(f:JY)(fd:Jc),cn P w K mg à (oV P w) k f fd ps sp/\mg x=some (.ref f)/\W.keepIn K (.ref f)=true/\ú K fd ps []
section
variable{P:Ja}{K:Ni}
def ã.mono{j k:Nat}{x:Str}{ps:List Str}{sp:Sp}(D:ã P w K mg à j x ps sp)(h:j<=k):ã P w K mg à k x ps sp:=let⟨f,fd,a,r⟩:=D.ex;⟨f,fd,a.mono h,r⟩
structure aY(K:Ni)(mg:Str->Option JZ)(x:Str)(st:Stmt):Prop where
 ex:∃(f:JY)(fd:Jc),vA K x x st f fd/\mg x=some (.ref f)
def aY.mk'{f:JY}{kV:JZ}(KX:K.In h)(G:h.Ns mainGlobals mg)(a:W.nsIn K mainGlobals x=some (some (.ref f)))(l:K.lookup f=some ⟨oc,od,.func (W.fnOf x x (gx st) (dG st) (aH st) .none kV doc pm an bM ct),GN⟩)(c:W.codeIn K bM x=true)(k:W.keepIn K (.ref f)=true):aY K mg x st:=⟨f,_,KY l c k,D9 KX G a⟩
abbrev Yn(P:Ja)(w:Jb)(K:Ni)(mg:Str->Option JZ)(à:Heap)(N:List Str)(x:Str)(st:Stmt)(f:JY)(bM:JZ)(A:Jd)(á:List Env)(s:JX)(H:Hp)(E:XK):Cx :=
 NQ (oV P w) P w K mg à N x (aH st) f bM A á s H E
def aY.def(F:aY K mg x st)(S:aM N ps (aH st))(hb:∀(kV doc pm:JZ)(an:Option JY)(bM ct:JZ)(us:List JZ),us.length=ps.length->bindArgs (W.fnOf x x (gx st) (dG st) (aH st) .none kV doc pm an bM ct) ⟨us,[]⟩=pure (ps.zip us))(len:∀vs H Q E,sp vs H Q E->vs.length=ps.length)(o7:∀(f:JY)(bM:JZ)(A:Jd)(á:List Env)(s:JX)(H:Hp)(vs:List V)(Q:VK)(E:XK),fY k (A.deeper (envOfC x (aH st) s.heap.objs.size f bM))->sp vs H Q E ->
   ∃t,JP (Yn P w K mg à N x st f bM A á s H E) (dG st) t/\t {nx:=λ_ H'=>Q .cX H',rt:=Q} (start N vs) H):ã P w K mg à (k+1) x ps sp:=by
 obtain⟨f,fd,F1,hm⟩:=F.ex;have b:=F1.binds hb;have kp:=F1.kp;obtain⟨oc,od,kV,doc,pm,an,bM,ct,GN,rfl,lk,Cn⟩:=F1.ex;exact⟨f,_,MG lk Cn S len λA á s H vs Q E hr MH=>o7 f bM A á s H vs Q E hr MH,hm,kp,b⟩
end
section
variable{E:XK}{p:Pos}{t:TA}
def WI(D:ã X.prog X.w X.K X.mg X.à k x ps sp)(hr:fY k X.A)(hx:o6 (oV X.prog X.w) X E)(ha:PA X (e::es) t)(hg:Gl X x:=by rfl)(PF:(x==("__debug__":Str))=false:=by decide)(he:starEach (e::es) X.env=(false,eval e X.env)::starEach es X.env:=by rfl)(GL:(backTo pos (starEach es X.env)).any (·.1)=false:=by rfl):
  PE X (.Call (.Name x p) (e::es) [] pos) (PD sp [] E t):=by
 obtain⟨f,fd,F,hm,hk,hb⟩:=D.ex;exact R5 F hr hg hm hk hb .nil hx ha PF he GL
end
inductive Uv(K:Ni)(x y:V)(H:Hp)(Q:VK):Prop
 |mk (l b:JY) (xs zs:List V) (_:x=.ref l) (_:y=.ref b) (_:aX K H l xs) (_:aX K H b zs) (_:xs.length+zs.length<=sizeLine) (_:∀p,H p=none->Q (.ref p) (ü H p (.lst (xs++zs))))
def SH:kY X (binaryOp .Add) (Uv X.K):=by
 intro bv s Z H x y v u Q I rx ry h;obtain⟨l,b,xs,zs,rfl,rfl,hH,hB,hz,q⟩:=h;cases rx;cases ry;obtain⟨aa,r,pl,_⟩:=I.list hH;obtain⟨gu,r2,pl2,_⟩:=I.list hB;obtain⟨⟨cls,dd,data,sl⟩,ho,hc,n,hd⟩:=id pl.isList;obtain⟨⟨aBM,WJ,data2,Yo⟩,Yp,Yq,n2,hd2⟩:=id pl2.isList;simp only at hc hd Yq hd2;subst hc hd Yq hd2;have e:aa.toArray++gu.toArray=(aa++gu).toArray:=by simp
 have hsz:aa.toArray.size+gu.toArray.size<=sizeLine:=by rw[bo,bo,<-r.length,<-r2.length];exact hz
 refine concat_meets ⟨_,ho,rfl⟩ ⟨_,Yp,rfl⟩ noFill_list_add seq_list_add PySem.F.slot_list_add PySem.F.entry_list_add (PySem.F.args_list_add_2 _ _) (list_addW l b aa.toArray gu.toArray n n2 dd WJ sl Yo hsz) ⟨ho,Yp,?_⟩;rw[e];exact⟨.ref _,_,I.Yh (t':=s.toks) (r.append r2) (by rw[bV];exact hz),rfl,q _ I.fresh⟩
def Cz(K:Ni):Sp:=λvs H Q _=>∃(a:JY)(ns:List Int),vs=[.ref a]/\aX K H a (ns.map V.int)/\ns.length<=63/\∀H',Q (.bl true) H'
section
variable{P:Ja}{K:Ni}
def vA.ok1{f:JY}(F:vA K x x st f fd)(S:aM N ps (aH st))(len:∀vs H Q E,sp vs H Q E->vs.length=ps.length)(o7:∀(f:JY)(bM:JZ)(A:Jd)(á:List Env)(s:JX)(H:Hp)(vs:List V)(Q:VK)(E:XK),fY k (A.deeper (envOfC x (aH st) s.heap.objs.size f bM))->sp vs H Q E ->
   ∃t,JP (Yn P w K mg à N x st f bM A á s H E) (dG st) t/\t {nx:=λ_ H'=>Q .cX H',rt:=Q} (start N vs) H):cn P w K mg à (oV P w) (k+1) f fd ps sp:=by
 obtain⟨oc,od,kV,doc,pm,an,bM,ct,GN,rfl,lk,Cn⟩:=F.ex;exact MG lk Cn S len λA á s H vs Q E hr MH=>o7 f bM A á s H vs Q E hr MH
def PV(S:aY K mg "law" st)(hb:∀(kV doc pm:JZ)(an:Option JY)(bM ct:JZ)(us:List JZ),us.length=1->bindArgs (W.fnOf "law" "law" (gx st) (dG st) (aH st) .none kV doc pm an bM ct) ⟨us,[]⟩=pure ((["script"]:List Str).zip us))(V8:mg "law"=some (.ref fa))(hF:∀(f:JY)(fd:Jc)(à:Heap),vA K "law" "law" st f fd->cn P w K mg à (oV P w) k f fd ["script"] (Cz K)):
  ∃fd:Jc,(∀(s:JX)(u:JZ),BindsTo s fd ⟨[u],[]⟩ [("script",u)])/\∀à:Heap,K.In à->à.Ns mainGlobals mg->cn P w K mg à (oV P w) k fa fd ["script"] (Cz K):=by
 obtain⟨f,fd,F,hm⟩:=S.ex;rw[V8]at hm;cases hm;refine⟨fd,?_,λà _ _=>hF fa fd à F⟩;obtain⟨oc,od,kV,doc,pm,an,bM,ct,GN,rfl,lk,Cn⟩:=F.ex;exact λs u=>.of_eq (hb kV doc pm an bM ct [u] rfl)
end
def PX{l:W.OpenLaw}{K:Params->Ni}(hr:fY k callerA)(hn:l.most=some 63)(Yi:d.params.defaults=[])(hY:∀(w:Jb)(h:Heap),YP w h->(K w.params).In h)(F:∀(w:Jb)(mg:Str->Option JZ)(fa:JY)(h:Heap),(K w.params).In h->h.Ns mainGlobals mg->mg d.name=some (.ref fa) ->
   ∃fd:Jc,(∀(s:JX)(u:JZ),BindsTo s fd ⟨[u],[]⟩ [("script",u)]) /\
    ∀à:Heap,(K w.params).In à->à.Ns mainGlobals mg->cn l.prog w (K w.params) mg à (oV l.prog w) k fa fd ["script"] (Cz (K w.params))):
  W.WalkO q loose XP YP l.row.toRowW d [] (λf vs=>PySem.call f vs) :=
 SF (n:=63) (k:=k) (x:="script") (CX:=λw=>oV l.prog w) (sp:=λw=>Cz (K w.params)) hn (by decide) Yi hr hY F (λ_ _ a ns hl _ hS=>⟨a,ns,rfl,hS,hl,λ_=>rfl⟩)
  λ_ _ _ _ _ h=>by obtain⟨_,_,_,_,_,_,_,q⟩:=h;exact q.elim
def aR{n:Int}(h:∃tk,X.mg x=some (.int n tk))(hg:Gl X x:=by rfl)(hd:(x==("__debug__":Str))=false:=by decide):PE X (.Name x pos) (tC (.int n)):=by obtain⟨tk,e⟩:=h;exact mm hg e ⟨tk,rfl⟩ hd
def Eb{n:Str}(h:∃tk,X.mg x=some (.str n tk))(hg:Gl X x:=by rfl)(hd:(x==("__debug__":Str))=false:=by decide):PE X (.Name x pos) (tC (.str n)):=by obtain⟨tk,e⟩:=h;exact mm hg e ⟨tk,rfl⟩ hd
def eT{p A B:Prop}[Decidable p](hp:¬p)(h:B):if decide p=true then A else B:=by rw[cL hp];exact c9 h
def fe{p A B:Prop}[Decidable p](hp:p)(h:A):if decide p=true then A else B:=by rw[bw hp];exact ig h
def ij{p A B:Prop}[Decidable p](hp:p)(h:B):if(!decide p)=true then A else B:=by rw[bw hp];exact c9 h
def Gj{p A B:Prop}[Decidable p](hp:¬p)(h:A):if(!decide p)=true then A else B:=by rw[cL hp];exact ig h
def SI{n:Int}(h:-(10 ^ 60)<=n)(h2:n<=10 ^ 60):n.natAbs<2 ^ 1000:=by
 have:n.natAbs<=10 ^ 60:=by lia
 exact Nat.lt_of_le_of_lt this (by decide)
def aI.put(s:aI H H')(hp:H p=none):aI H (ü H' p o):=λb u e=>by rw[aN (aP e hp)];exact s b u e
def aI.new(s:aI H H')(hp:H' p=none):aI H (ü H' p o):=s.put (s.free hp)
structure vE(K:Ni)(mg:Str->Option JZ)(x q:Str)(st:Stmt):Prop where
 ex:∃(f:JY)(fd:Jc),vA K q q st f fd/\mg x=some (.ref f)
section
variable{P:Ja}{K:Ni}
def vE.mk'{q:Str}{f:JY}{kV:JZ}(KX:K.In h)(G:h.Ns mainGlobals mg)(a:W.nsIn K mainGlobals x=some (some (.ref f)))(l:K.lookup f=some ⟨oc,od,.func (W.fnOf q q (gx st) (dG st) (aH st) .none kV doc pm an bM ct),GN⟩)(c:W.codeIn K bM q=true)(k:W.keepIn K (.ref f)=true):vE K mg x q st:=⟨f,_,KY l c k,D9 KX G a⟩
def vE.def{q:Str}(F:vE K mg x q st)(S:aM N ps (aH st))(hb:∀(kV doc pm:JZ)(an:Option JY)(bM ct:JZ)(us:List JZ),us.length=ps.length->bindArgs (W.fnOf q q (gx st) (dG st) (aH st) .none kV doc pm an bM ct) ⟨us,[]⟩=pure (ps.zip us))(len:∀vs H Q E,sp vs H Q E->vs.length=ps.length)(o7:∀(f:JY)(bM:JZ)(A:Jd)(á:List Env)(s:JX)(H:Hp)(vs:List V)(Q:VK)(E:XK),fY k (A.deeper (envOfC q (aH st) s.heap.objs.size f bM))->sp vs H Q E ->
   ∃t,JP (Yn P w K mg à N q st f bM A á s H E) (dG st) t/\t {nx:=λ_ H'=>Q .cX H',rt:=Q} (start N vs) H):ã P w K mg à (k+1) x ps sp:=by
 obtain⟨f,fd,F1,hm⟩:=F.ex;have b:=F1.binds hb;have kp:=F1.kp;obtain⟨oc,od,kV,doc,pm,an,bM,ct,GN,rfl,lk,Cn⟩:=F1.ex;exact⟨f,_,MG lk Cn S len λA á s H vs Q E hr MH=>o7 f bM A á s H vs Q E hr MH,hm,kp,b⟩
end
def SJ{hs:List ExceptHandler}(hb:JP X.J7 body t):PS X (.Try body (h1::hs) [] [] pos) t:=by
 intro bv s Z H D I h;have WC:wX X (execs body X.env) (SP X.J7 bv D) X.J7.xe s:=hb bv s Z H D (I.AJ _) h;refine wpAny_Try_except (gW WC (λf s1 q=>?_) λ_ _ z=>False.elim z);have q:=q.mn;cases f with
 |next=>exact zr q
 |brk=>exact q
 |cont=>exact q
 |ret u=>exact q
def all_true(n:Nat):(List.range n).all (λ_=>true)=true:=by simp
def i8(r:aq xs aa)(j:Nat)(h:j<aa.toArray.size):∃x,xs[j]?=some x/\æ x aa.toArray[j]:=by
 have hj:j<aa.length:=by simpa using h
 have hl:=r.length;have hx:xs[j]?=some xs[j]:=by simp[show j<xs.length by lia]
 obtain⟨u,hu,ru⟩:=r.get hx;refine⟨_,hx,?_⟩;have e:aa.toArray[j]=u:=by
  have:=hu;rw[cT hj]at this
  simpa using bR this
 rw[e];exact ru
def dU(hr:fY k A):A.units+16<cLine:=by have:=hr.un;lia
def PY:dt X (.builtin "all") (λxs H Q=>∃(p:JY)(bs:List Bool),X.calm=true/\xs=[.ref p]/\aX X.K H p (bs.map V.bl)/\Q (.bl (bs.all id)) H):=by
 intro bv s Z H xs us Q I r h;obtain⟨p,bs,hc,rfl,hq,q⟩:=h;obtain⟨u,rfl,rx⟩:=é r;cases rx;obtain⟨aa,r1,p1,_⟩:=I.list hq;have l1:=r1.length;rw[aJ]at l1;refine call_all_walk (tQ p1.isList ?_);have AX:p≠s.heap.objs.size:=by obtain⟨o,n,ho,_⟩:=p1;exact cg (bC ho)
 refine⟨_,_,_,aa.toArray.size,_,_,λi=>bs.getD i true,rfl,Walks.list (A:=X.A.in1) (I.ok.hd hc) s.heap.objs.size p AX aa.toArray,?_,?_,λh' tk kp=>?_⟩
 .exact⟨⟨_,bK _ rfl,rfl,rfl⟩,p1.isList.at λo e=>bG _ e⟩
 .intro i v s' Q' E' hv hQ;have hi:i<aa.length:=by have:=hv;simp only[zY]at this;exact(bq.mp this).1
  have hb:(bs.map V.bl)[i]?=some (V.bl bs[i]):=by simp[show i<bs.length by lia]
  obtain⟨u,hu,ru⟩:=r1.get hb;have e:u=v:=by simp only[zY]at hv;rw[hu]at hv;exact bR hv
  subst e;cases ru;refine lu ?_;have e2:bs.getD i true=bs[i]:=by simp[List.getD,show i<bs.length by lia]
  rw[<-e2];exact hQ
 have e:(List.range aa.toArray.size).all (λi=>bs.getD i true)=bs.all id:=by
  have hz:aa.toArray.size=bs.length:=by simp;lia
  rw[hz,jq];simp only[og,jL,id];constructor
  .intro h b hb;obtain⟨n,hn,rfl⟩:=eU hb;have:=h n hn
   simpa[List.getD,hn]using this
  intro h i hi;have:=h bs[i] (jJ hi)
  simpa[List.getD,hi]using this
 rw[e];exact⟨.bl (bs.all id),H,I.kept (t':=tk) λb o eb=>kp b o (by
  intro z;have hb:b=s.heap.objs.size:=by simpa using z
  exact absurd (bC eb) (by rw[hb];exact gR _)) (bG _ eb),rfl,q⟩
section
variable{I S:JY}{wr:List JY}{P:Nat->JZ->Prop}{St:Nat->JX->Prop}{T:String}
def PZ(W:WalksS prog w A.in1 I fp wr G n P St)(hT:∀i s,St i s->s.TypeIs (.ref I) T)(t1:(Value.type T==Value.type "list")=false)(t2:(Value.type T==Value.type "tuple")=false)(hh:∀(s:JX)(Q:Bool->JX->Prop)(E:JZ->JX->Prop),St 0 s->Q false s->wpAny (model prog w) A.in1 (Builtin.List.listLengthHint (.ref I)) Q E s)(res:JZ)(c0:Nat)(Bt:St 0 s)(hSf:S∉fp)(hI:I∈fp)(hS:s.heap.get? S=some {cls:=.type "list",data:=.seq #[] c0})(hn:n<=sizeLine)(hR:∀s' i9 c',Moved (S::wr) G s s'->s'.heap.get? S=some {cls:=.type "list",dict:=none,data:=.seq i9 c',slots:=#[]}->ItemsOf P i9 n->R (.ok (.ret res)) s'):
  wpAny (model prog w) A.in1 (Builtin.List.listExtendWith (.ref S) (.ref I) res)
   (λfin s'=>match fin with|.done f=>R (.ok f) s'|.again c'=>c'.quiet=true/\codeAny (model prog w) A c' R s') (λe s'=>R (.error e) s') s:=by
 have ne:S≠I:=λe=>hSf (by rw[e];exact hI);have h1:Builtin.List.listSameRef (.ref S) (.ref I)=false:=by simp[Builtin.List.listSameRef,ne]
 unfold Builtin.List.listExtendWith;refine aG (tX (hT 0 s Bt) ?_);simp only[h1,t1,t2,Bool.or_false,ur,cm];refine aG (W.self 0 s _ _ Bt (aG (gp (hh s _ _ Bt ?_))));refine ky (λ_=>?_) (λ_=>?_)
 .refine aG (iD (aG ?_));show wpAny _ A.in1 (updateSeq S (·.push .none) >>= λ_=>updateSeq S (·.pop)) _ _ s;refine aG (zq hS rfl ?_);have Xf:=xv (Obj.mapSeq (·.push Value.none)) hS rfl;refine zq (hz:=by seq_fits) Xf rfl ?_;have hS3:=xv (Obj.mapSeq (·.pop)) Xf rfl;have kp:∀b o,b≠S->s.heap.get? b=some o->((s.heap.update S (Obj.mapSeq (·.push Value.none))).update S (Obj.mapSeq (·.pop))).get? b=some o:=λb o hb e=>by rw[tI _ _ (bS hb),tI _ _ (bS hb)];exact e
  exact aS ⟨lA F.plain_extend_loop _,Jx W hn S hSf res n 0 _ _ _ rfl (bt n) (W.frame 0 s _ s.toks Bt (ae _) λb hb o e=>kp b o (λz=>hSf (by rw[<-z];exact hb)) e) hS3 (ItemsOf.nil P)
   λs' i9 c' hm SK Ec=>hR s' i9 c' (Moved.trans W.gtrans ((Moved.refl W.grefl).then_heap (ae _) λb o hb e=>kp b o (λz=>hb (by rw[z];exact bp)) e) hm) SK Ec⟩
 exact aS ⟨lA F.plain_extend_loop _,Jx W hn S hSf res n 0 s #[] c0 rfl (bt n) Bt hS (ItemsOf.nil P) λs' i9 c' hm SK Ec=>hR s' i9 c' hm SK Ec⟩
def NV{Q:JZ->JX->Prop}(W:WalksS prog w A.in1.in1 I fp wr G n P St)(hT:∀i s,St i s->s.TypeIs (.ref I) T)(t1:(Value.type T==Value.type "list")=false)(t2:(Value.type T==Value.type "tuple")=false)(hh:∀(s:JX)(Q:Bool->JX->Prop)(E:JZ->JX->Prop),St 0 s->Q false s->wpAny (model prog w) A.in1.in1 (Builtin.List.listLengthHint (.ref I)) Q E s)(Bt:St 0 s)(Yl:∀b∈fp,b<s.heap.objs.size)(hI:I∈fp)(hn:n<=sizeLine)(hQ:∀s' i9 c',Moved (s.heap.objs.size::wr) G {s with heap:=s.heap.push {cls:=.type "list",data:=.seq #[]}} s' ->
   s'.heap.get? s.heap.objs.size=some {cls:=.type "list",dict:=none,data:=.seq i9 c',slots:=#[]}->ItemsOf P i9 n->Q (.ref s.heap.objs.size) s'):
  wpAny (model prog w) A (call (.type "list") [.ref I]) Q E s:=by
 have nf:s.heap.objs.size∉fp:=λz=>absurd (Yl _ z) (gR _);refine callType_codes (Q₁:=λobj z=>obj=.ref s.heap.objs.size/\z={s with heap:=s.heap.push {cls:=.type "list",data:=.seq #[]}}) F.called_list (F.typeCall_list_1 _) F.entry_list_init (code_list_new _ ⟨rfl,rfl⟩) λobj z hz=>?_
 obtain⟨rfl,rfl⟩:=hz;have hS:(s.heap.push {cls:=.type "list",data:=.seq #[]}).get? s.heap.objs.size=some {cls:=.type "list",data:=.seq #[]}:=bK _ rfl;refine⟨⟨_,hS,rfl⟩,F.args_list_init_2 _ _,?_⟩;have aBN:=W.frame 0 s (s.heap.push {cls:=.type "list",data:=.seq #[]}) s.toks Bt (ae _) λb _ o e=>bG _ e;show wpAny _ A.in1.in1 (do let old <- Builtin.List.listItems (.ref s.heap.objs.size);Builtin.List.listUpdate (.ref s.heap.objs.size) (λ_=>#[]);letGo old.toList.reverse;Builtin.List.listExtendWith (.ref s.heap.objs.size) (.ref I) .none) _ _ _
 refine aG ?_;unfold Builtin.List.listItems;refine aG (l7 hS rfl (aS (aG (zq hS rfl ?_))));have Xf:=xv (Obj.mapSeq (λ_=>(#[]:Array JZ))) hS rfl;have kp:∀b o,b≠s.heap.objs.size->(s.heap.push {cls:=.type "list",data:=.seq #[]}).get? b=some o->((s.heap.push {cls:=.type "list",data:=.seq #[]}).update s.heap.objs.size (Obj.mapSeq (λ_=>(#[]:Array JZ)))).get? b=some o :=
  λb o hb e=>(tI _ _ (bS hb)).trans e
 refine aG (wpAny_letGo ?_);refine PZ W hT t1 t2 hh .none _ (W.frame 0 _ _ s.toks aBN (ae _) λb hb o e=>kp b o (λz=>nf (by rw[<-z];exact hb)) e) nf hI Xf hn λs' i9 c' hm SK Ec=>?_;exact⟨rfl,hQ s' i9 c' (Moved.trans W.gtrans ((Moved.refl W.grefl).then_heap (ae _) λb o hb e=>kp b o (λz=>hb (by rw[z];exact bp)) e) hm) SK Ec⟩
end
def NW:typeLookup (.type "list_reverseiterator") "__len__"=pure none:=by rw[zt,zc];kernel_rfl
def Pa:typeLookup (.type "list_reverseiterator") "__length_hint__"=pure (some (.builtin "list_reverseiterator.__length_hint__")):=by rw[zt,zc];kernel_rfl
def Pb{Q:Bool->JX->Prop}{i:Int}(hit:s.heap.IsRevIter it l i)(h:Q false s):
  wpAny (model prog w) A (Builtin.List.listLengthHint (.ref it)) Q E s:=by
 unfold Builtin.List.listLengthHint;refine aG (mZ hit.typeIs NW ?_);show wpAny _ A (specialOf (Value.ref it) (Str.ofString "__length_hint__") >>= _) _ _ _;refine aG (mZ hit.typeIs Pa ?_);generalize Yr:("list_reverseiterator.__length_hint__":String)=id0
 wp_delta
 rw[show splitId id0=some ("list_reverseiterator","__length_hint__")from by subst Yr;decide +kernel];subst Yr;refine aG (wc (T:="list_reverseiterator") (b:=true) hit.typeIs (by rw[wg];kernel_rfl) ?_);refine ky (λz=>absurd z (by decide)) (λ_=>?_);refine ky (λ_=>?_) (λz=>absurd (by decide +kernel) z);exact ky (λz=>absurd z (by decide +kernel)) (λ_=>aS h)
def Ys(K:Ni)(te:TE):TE:=λZ H Q=>te Z H λv H1=>∃l xs,v=.ref l/\aX K H1 l xs/\∀q,H1 q=none->Q (.ref q) (ü H1 q (.lst xs.reverse))
def mD{p p2 SM:Pos}(hc:X.calm=true)(hml:X.mg "list"=none)(hmr:X.mg "reversed"=none)(he:PE X e te)(hgl:Gl X "list":=by rfl)(hgr:Gl X "reversed":=by rfl)(hs:starEach [e] X.env=[(false,eval e X.env)]:=by rfl)(By:starEach [Expr.Call (.Name "reversed" p2) [e] [] SM] X.env=[(false,eval (Expr.Call (.Name "reversed" p2) [e] [] SM) X.env)]:=by rfl):
  PE X (.Call (.Name "list" p) [.Call (.Name "reversed" p2) [e] [] SM] [] pos) (Ys X.K te):=by
 intro bv s Z H Q I h;refine oj (mh I hgl hml i7 ?_ (by decide) (by decide));refine xq ?_ By rfl;rw[By];show wpAny _ _ (spliced [(false,eval (Expr.Call (.Name "reversed" p2) [e] [] SM) X.env)]) _ _ s;refine zk (oj (mh I hgr hmr boot_reversed ?_ (by decide) (by decide)));refine xq ?_ hs rfl;rw[hs];show wpAny _ _ (spliced [(false,eval e X.env)]) _ _ s;refine zk (cC (he bv s Z H _ I h) λv s1 ⟨x,H1,I1,r1,q1⟩=>D6 ?_);obtain⟨l,xs,rfl,hq,q⟩:=q1;cases r1;obtain⟨aa,rv,pl,hz⟩:=I1.list hq;have lc:=rv.length;refine call_reversed_list pl.isList (D6 ?_);have jz:l<s1.heap.objs.size:=by obtain⟨o,n,ho,_⟩:=pl;exact bC ho
 have aBO:l≠s1.heap.objs.size:=cg jz;have W:=(Walks.listRev (prog:=X.prog) (w:=X.w) (A:=X.A.in1.in1) (I.ok.hd hc) s1.heap.objs.size l aBO aa.toArray).toS;have psz:(s1.heap.push (revObj l ((aa.toArray.size:Int)-1))).objs.size=s1.heap.objs.size+1:=ib ..;have pl2:(s1.heap.push (revObj l ((aa.toArray.size:Int)-1))).IsList l aa.toArray:=pl.isList.at λo e=>bG _ e;refine NV W (T:="list_reverseiterator") (λi s' st=>st.2.1.typeIs) (by decide) (by decide) (λs' Q' E' st Vx=>Pb st.2.1 Vx) ⟨bt _,⟨_,bK _ rfl,rfl,by unfold revObj;simp⟩,pl2⟩ (λb hb=>?_) (by simp) (by simp;lia) λs' i9 c' hm SK Ec=>?_
 .have Pc:b=s1.heap.objs.size\/b=l:=by simpa using hb
  show b<(s1.heap.push (revObj l ((aa.toArray.size:Int)-1))).objs.size;rw[psz];rcases Pc with rfl|rfl
  .exact om _
  exact rW jz
 have ea:i9=aa.reverse.toArray:=by
  obtain⟨a1,a2⟩:=Ec;apply Array.ext';apply mW;intro j;by_cases hj:j<aa.length
  .have Ol:j<i9.size:=(by rw[a1];simpa using hj);have g:=a2 j i9[j] (by simp[Ol]);have e1:i9.toList[j]?=some i9[j]:=(by simp[Ol]);rw[e1];simp only[zY,bo]at g;show _=aa.reverse[j]?;rw[Jm hj,g]
  have:i9.toList[j]?=none:=by simp;rw[a1];simp;lia
  rw[this];simp;lia
 subst ea;rw[Moved.eq_with hm];have kp:∀b o,s1.heap.get? b=some o->s'.heap.get? b=some o:=λb o eb=>by
  have Om:=bC eb;refine hm.heap b o (λz=>?_) (bG _ (bG _ eb));have z':b=(s1.heap.push (revObj l ((aa.toArray.size:Int)-1))).objs.size\/b=s1.heap.objs.size:=by simpa using z
  rw[psz]at z';rcases z' with z'|z'
  .exact absurd Om (by rw[z'];exact AG.mpr (gq _))
  exact absurd Om (by rw[z'];exact gR _)
 refine⟨.ref _,_,I1.laid (t':=s'.toks) (o:=.lst xs.reverse) (a:=(s1.heap.push (revObj l ((aa.toArray.size:Int)-1))).objs.size) kp (by rw[psz];lia) ?_,rfl,q _ (I1.cI.fresh (by rw[psz];lia))⟩;exact⟨by rw[rT];exact hz,aa.reverse,c',rv.reverse,SK⟩
def zB(Nc:List Str)(ix:List (Option Nat))(scope sc:Scope)(N:List Str):Bool :=
 decide (scope.kind=.function)&&decide Nc.Nodup&&decide (ix.length=Nc.length) &&
 (scope.names.all λx=>decide (x.2=.local->scope.names.lookup x.1=some .local)) &&
 (scope.names.all λx=>decide (x.2=.free->sc.names.lookup x.1=some .cell\/sc.names.lookup x.1=some .free)) &&
 (scope.names.all λx=>decide (x.2=.free->(x.1,NameKind.cell)∉scope.names)) &&
 ((ix.zip Nc).all λp=>match p.1 with|none=>true|some j=>decide (N[j]?=some p.2/\scope.names.lookup p.2=some .free))
def iG(sc:Scope)(N:List Str)(AY:X.env.scope=sc)(hN:X.N=N)(h:zB Nc ix scope sc N=true):gZ X Nc ix scope:=by
 subst AY hN;simp only[zB,tS,tN,og]at h;obtain⟨⟨⟨⟨⟨⟨h1,h2⟩,h3⟩,h4⟩,h5⟩,h6⟩,h7⟩:=h;refine⟨h1,h2,h3,h4,h5,λx hx=>h6 _ hx rfl,λi j x e1 e2=>?_⟩;have hm:(some j,x)∈ix.zip Nc:=by refine List.mem_iff_getElem?.mpr ⟨i,?_⟩;rw[List.getElem?_zip_eq_some];exact⟨e1,e2⟩
 have:=h7 _ hm
 simpa using this
section
variable{K:Ni}
abbrev Lb(tt:TT)(te:TE)(D:JY)(N:St->Hp->Prop):St->Hp->Prop:=λσ3 H3=>tt σ3 H3 λb H4=>if b=true then te σ3 H4 λv H5=>∃ys,H5 D=some (.lst ys)/\ys.length<sizeLine/\N σ3 (ü H5 D (.lst (ys++[v])))else N σ3 H4
def yA(n:Nat)(Pv:Nat->St->Hp->Prop)(h0:Pv 0 Z H)(st:∀i Z H (N:St->Hp->Prop),(∀Z H,Pv (i+1) Z H->N Z H)->i<n->Pv i Z H->J.go i H/\∀x H',J.Rn i H x H'->g x Z H' (Lb tt te D N))(hd:∀Z H,Pv n Z H->J.stop n H/\Q (.ref D) H):oP J g tt te D Z H Q:=by
 refine⟨λi m Z H=>m=n-i/\i<=n/\Pv i Z H,⟨n,rfl,bt _,h0⟩,?_⟩;rintro i m Z H ⟨rfl,hi,p⟩;by_cases lt:i<n
 .exact .inr (st i Z H (λσ3 H3=>∃m',m'<n-i/\m'=n-(i+1)/\i+1<=n/\Pv (i+1) σ3 H3) (λσ3 H3 z=>⟨n-(i+1),by lia,rfl,lt,z⟩) lt p)
 obtain rfl:i=n:=by lia
 exact .inl (hd Z H p)
def iR(Pv:Nat->St->Hp->Prop)(h0:Pv 0 Z H)(hl:∀i Z H,i<=xs.length->Pv i Z H->aX K H a xs)(hs:∀(i:Nat)(x:V)(Z:St)(H:Hp)(N:St->Hp->Prop),(∀Z H,Pv (i+1) Z H->N Z H)->xs[i]?=some x->Pv i Z H->g x Z H (Lb tt te D N))(hd:∀Z H,Pv xs.length Z H->Q (.ref D) H):oP (YD K a) g tt te D Z H Q:=by refine yA xs.length Pv h0 (λi Z H N hN lt p=>?_) λZ H p=>⟨⟨xs,hl _ Z H (ae _) p,ae _⟩,hd Z H p⟩;have q:=hl i Z H (gT lt) p;refine⟨⟨xs,xs[i],q,by simp[lt]⟩,?_⟩;rintro x H' ⟨rfl,y⟩;exact hs i x Z _ N hN (y xs q) p
def j3{lo:Int}(Pv:Nat->St->Hp->Prop)(h0:Pv 0 Z H)(hs:∀(i:Nat)(Z:St)(H:Hp)(N:St->Hp->Prop),(∀Z H,Pv (i+1) Z H->N Z H)->i<n->Pv i Z H->g (.int (lo+i)) Z H (Lb tt te D N))(hd:∀Z H,Pv n Z H->Q (.ref D) H):oP (Vp lo n) g tt te D Z H Q:=by refine yA n Pv h0 (λi Z H N hN lt p=>⟨lt,?_⟩) λZ H p=>⟨ae _,hd Z H p⟩;rintro x H' ⟨rfl,rfl⟩;exact hs i Z _ N hN lt p
end
def dH{y:V}(h:(ns.map V.int)[i]?=some y):∃z,ns[i]?=some z/\y=V.int z:=by
 rw[bh]at h;cases e:ns[i]? with
 |none=>rw[e]at h;cases h
 |some z=>rw[e]at h;exact⟨z,rfl,(bR h).symm⟩
def þ{α:Type}{l:List α}{i:Nat}{x:α}(h:l[i]?=some x):l.take (i+1)=l.take i++[x]:=by rw[List.take_succ,h];rfl
def cA{x:V}{A:St->Hp->Prop}(h:A (Z.set i (some x)) H):gX i x Z H λσ3 H3=>WE σ3 H3 λb H4=>if b=true then A σ3 H4 else B σ3 H4:=by show if true=true then A (Z.set i (some x)) H else B (Z.set i (some x)) H;exact ig h
def â.SN(I:â X bv Z H s)(k:∀b o,b∉ch->s.heap.get? b=some o->h'.get? b=some o)(hf:∀b∈ch,wu X bv H b):â X bv Z H {s with heap:=h',toks:=t'}:=by
 have Yt:∀b u,H b=some u->b∉ch:=λb u e z=>by rw[(hf b z).1]at e;cases e
 refine I.Ox (s':={s with heap:=h',toks:=t'}) (ch:=ch) rfl ⟨λb o e _ _ hx=>k b o hx e,λb o e _ _ hx=>⟨o.slots,k b o hx e⟩,λ_ _ _ n _=>n,λb o e hx=>⟨o,k b o hx e⟩,λ_ _ e=>e,λ_ _ _ e=>e,λb ps e=>⟨#[],by rw[e];simp⟩⟩ ?_ I.bare λb hb=>?_
 .intro b o e;refine(I.cI b o e).rF (λc u hc q=>k c u ?_ q) (λ_ q=>q) λ_ _ q=>q;rcases hc with z|z
  .rw[z];exact Yt b o e
  exact Yt c _ z
 obtain⟨_,q1,_,q3,q4,q5⟩:=hf b hb;exact⟨q3,q1,q4,q5⟩
def â.NX{T:JY}(I:â X bv Z H s)(k:∀b o,b∉ch->s.heap.get? b=some o->h'.get? b=some o)(hf:∀b∈ch,wu X bv H b)(hT:s.heap.objs.size<=T)(new:cY X.prog X.w (ü H T o) h' T o):â X bv Z (ü H T o) {s with heap:=h',toks:=t'}:=by
 have Yt:∀b u,H b=some u->b∉ch:=λb u e z=>by rw[(hf b z).1]at e;cases e
 have hn:=I.cI.fresh hT;have old:∀b u,s.heap.get? b=some u->b≠T:=λb u e=>cg (fS (bC e) hT);refine I.Ox (s':={s with heap:=h',toks:=t'}) (ch:=ch) rfl ⟨λb o e _ _ hx=>k b o hx e,λb o e _ _ hx=>⟨o.slots,k b o hx e⟩,λb u e n _=>by rw[aN (old b u e)];exact n,λb o e hx=>⟨o,k b o hx e⟩,
  λb xs e=>by rw[aN (aP e hn)];exact e,λb o u e=>by rw[aN (aP e hn)];exact e,λb ps e=>⟨#[],by rw[aN (aP e hn),e];simp⟩⟩ ?_ I.bare λb hb=>?_
 .intro b u e;by_cases hb:b=T
  .subst hb;rw[aB]at e;cases e;exact new
  rw[aN hb]at e;refine(I.cI b u e).rF (λc v hc q=>k c v ?_ q) (λc q=>by rw[aN (aP q hn)];exact q) λc xs q=>by rw[aN (aP q hn)];exact q
  rcases hc with z|z
  .rw[z];exact Yt b u e
  exact Yt c _ z
 obtain⟨_,q1,_,q3,q4,q5⟩:=hf b hb;exact⟨q3,q1,q4,q5⟩
def WK{j:Nat}{px:Pos}(hc:X.calm=true)(hN:X.N.Nodup)(hi:X.N[i]?=some x)(hj:X.N[j]?=some y)(lx:í X.env.scope x)(ly:í X.env.scope y)(fx:X.fn x=true\/X.env.scope.names.lookup x=some .local:=by first|exact .inl rfl|exact .inr rfl)(fy:X.fn y=true\/X.env.scope.names.lookup y=some .local:=by first|exact .inl rfl|exact .inr rfl)(hs:(assignEach [.Name x px,.Name y py] X.env).map (·.2)=[assign (.Name x px) X.env,assign (.Name y py) X.env]:=by rfl)(By:(assignEach [.Name y py] X.env).map (·.2)=[assign (.Name y py) X.env]:=by rfl)(hs0:(assignEach [] X.env).map (·.2)=[]:=by rfl)(hn:(assignEach [.Name x px,.Name y py] X.env).length=2:=by rfl)(Bt:(assignEach [.Name x px,.Name y py] X.env).findIdx? (·.1)=none:=by rfl):
  PG X (.Tuple [.Name x px,.Name y py] k pos) (NM X.K 2 (ux (gX i) (ux (gX j) Oz))) :=
 wq hc (b9 (gs hN hi lx fx) (b9 (gs hN hj ly fy) qg (by rw[By,hs0])) (by rw[hs,By])) hn Bt
section
variable{K:Ni}
def AZ{j:Nat}{x y:V}{A:St->Hp->Prop}(h:A ((Z.set i (some x)).set j (some y)) (ü H p (.tup [x,y]))):
  NM K 2 (ux (gX i) (ux (gX j) Oz)) (.ref p) Z (ü H p (.tup [x,y])) λσ3 H3=>WE σ3 H3 λb H4=>if b=true then A σ3 H4 else B σ3 H4 :=
 ⟨p,[x,y],rfl,bO.of aB,rfl,x,_,rfl,y,_,rfl,rfl,(by show if true=true then A ((Z.set i (some x)).set j (some y)) (ü H p (.tup [x,y]))else B ((Z.set i (some x)).set j (some y)) (ü H p (.tup [x,y]));exact ig h)⟩
end
def cp(n:Nat)(f:Nat->V):List V:=(List.range n).map f
abbrev ii(n:Nat)(f:Nat->Int):List V:=cp n λj=>V.int (f j)
abbrev m8(n:Nat)(f:Nat->JY):List V:=cp n λj=>V.ref (f j)
def aU(n:Nat)(f:Nat->V):(cp n f).length=n:=by simp[cp]
def eJ(h:i<n):(cp n f)[i]?=some (f i):=by simp[cp,h]
def ø{x:V}(h:(cp n f)[i]?=some x):i<n/\x=f i:=by
 have hi:i<n:=by
  have:=(bq.mp h).1
  rwa [aU]at this
 rw[eJ hi]at h;exact⟨hi,(bR h).symm⟩
def Aa(n:Nat)(f:Nat->V):cp (n+1) f=cp n f++[f n]:=by simp[cp,Dy]
def cR{g:Nat->V}(h:∀i,i<n->f i=g i):cp n f=cp n g:=by unfold cp;apply iY;intro i hi;exact h i (jL.mp hi)
def vF{v:V}(h:i<n):(cp n f).set i v=cp n λj=>if j=i then v else f j:=by
 apply mW;intro j;by_cases hj:j<n
 .rw[eJ hj];by_cases e:j=i
  .subst e;rw[Ji (by rw[aU];exact hj)];simp
  rw[Jr (bS e),eJ hj];simp[e]
 rw[jG (by rw[List.length_set,aU];lia),jG (by rw[aU];lia)]
def xB{i:Int}(h0:0<=i)(h:i<n):KQ (cp n f).length i=some i.toNat:=by rw[aU];unfold KQ;rw[aL h0,aL h]
def dO{i:Int}(h0:0<=i)(h:i<n):rH (cp n f) i=some (f i.toNat):=by unfold rH;rw[xB h0 h];exact eJ (by lia)
def Pd:rH (cp (n+1) f) (-1)=some (f n):=by
 have h:KQ (cp (n+1) f).length (-1)=some n:=by
  rw[aU];unfold KQ;rw[aK (by lia),aL (by lia)]
  congr 1
  lia
 unfold rH;rw[h];exact eJ (by lia)
def m9(n:Nat)(f:Nat->Int):((List.range n).map f).map V.int=ii n f:=by unfold ii cp;rw[bB];rfl
def Ed(K:Ni)(H:Hp)(l:JY)(m n:Nat)(a:Nat->Nat->Int):Prop:=∃as:Nat->JY,aX K H l (m8 m as)/\∀i,i<m->aX K H (as i) (ii n (a i))
section
variable{K:Ni}
def xC{F:Nat->V}(Pv:Nat->St->Hp->Prop)(h0:Pv 0 Z H)(hl:∀i Z H,i<=n->Pv i Z H->aX K H a (cp n F))(hs:∀(i:Nat)(Z:St)(H:Hp)(N:St->Hp->Prop),(∀Z H,Pv (i+1) Z H->N Z H)->i<n->Pv i Z H->g (F i) Z H (Lb tt te D N))(hd:∀Z H,Pv n Z H->Q (.ref D) H):oP (YD K a) g tt te D Z H Q:=by refine iR (xs:=cp n F) Pv h0 (λi Z H hi=>hl i Z H (by rwa [aU]at hi)) (λi x Z H N hN hx hp=>?_) (λZ H h=>hd Z H (by rwa [aU]at h));obtain⟨hi,rfl⟩:=ø hx;exact hs i Z H N hN hi hp
def jU{F:Nat->V}{v:V}(h:v=F i):(ü H D (.lst (cp i F++[v]))) D=some (.lst (cp (i+1) F)):=by rw[aB,Aa,h]
end
def Gk(i:Nat)(F:Nat->V)(x:V):cp i F++[x]=cp (i+1) λk=>if k=i then x else F k:=by refine((Aa i _).trans ?_).symm;rw[show cp i (λk=>if k=i then x else F k)=cp i F from cR λk hk=>by rw[aK (by lia)],aL rfl]
def xD(i:Nat)(ps:Nat->JY)(p:JY):m8 i ps++[V.ref p]=m8 (i+1) λk=>if k=i then p else ps k:=by rw[Gk];refine cR λk hk=>?_;by_cases e:k=i<;>simp[e]
end L2
namespace L2
variable{X:Cx}{st:Stmt}{t:TA}{tg e value:Expr}{tl ta tb te tv:TE}{i n lo hi:Nat}{x name:Str}{y:V}{pos apos kT p pos':Pos}{o:Option V}{es values:List Expr}{r:V->List V->Hp->VK->Prop}{bv:List (JY×Obj)}{Z:St}{H H':Hp}{s:JX}{ys zs:List Int}{A:Jd}{tt:TT}{f:Nat->V}{g:List JZ->List JZ->List JZ}{w:Jb}{a D dx C:JY}{xs:List (List ä×JY×JZ)}{prog:Ja}{E Q:JZ->JX->Prop}{items:Array JZ}{b:Nat->Bool}{mg mA:Str->Option JZ}{h h':Heap}{fs fs':List (Str×V)}{u:JZ}{CX:KJ}{fd:Jc}{ps:List Str}{sp:Sp}{Bu:List V}{ds:List JZ}{ks keys:List (Option Expr)}{kws:List Keyword}{nm:Option Str}{gV:List V->List V->List V}{jp:List (List ä×V)}{vs:List (ä×JZ)}{Sb:List (TE×TE)}
def SO(x:V)(L:List V):rH (x::L) 0=some x:=by unfold rH KQ;rw[aL (by decide),aL (by simp)];rfl
open PySem PySem.Spec PyProof.Rows
def aBQ(t:TS):TS:=λD Z H=>∃R:St->Hp->Prop,t {D with nx:=R} Z H/\∀Z' H',R Z' H'->D.nx Z' H'
def WL{t:TS}(h:PS X st t):PS X st (aBQ t):=by
 intro bv s Z H D I ⟨R,h1,h2⟩;refine gW (h bv s Z H {D with nx:=R} I h1) (λf s' q=>?_) λ_ _ z=>z
 cases f with
 |next=>obtain⟨Z',H',I',q⟩:=q;exact⟨Z',H',I',h2 Z' H' q⟩
 |brk=>exact q
 |cont=>exact q
 |ret u=>exact q
section
variable(K:Ni)
def aZ(hK:X.K=K:=by rfl):V1 X (Ya K):=by subst hK;exact R7
def ay(hK:X.K=K:=by rfl):V1 X (Yb K):=by subst hK;exact V3
def cU(hK:X.K=K:=by rfl):SlR X (Yd K):=by subst hK;exact R8
def NY(hK:X.K=K:=by rfl):dt X (.builtin "len") (λxs H Q=>∃p ys,xs=[.ref p]/\(aX K H p ys\/bO K H p ys)/\Q (.int ys.length) H):=by subst hK;exact EX
def dB(hK:X.K=K:=by rfl):dt X (.type "list") (λxs H Q=>∃p ys,xs=[.ref p]/\(aX K H p ys\/bO K H p ys)/\∀l,H l=none->Q (.ref l) (ü H l (.lst ys))):=by subst hK;exact EY
def xE(hc:X.calm=true)(hK:X.K=K:=by rfl):dt X (.builtin "all") (λxs H Q=>∃(p:JY)(bs:List Bool),xs=[.ref p]/\aX K H p (bs.map V.bl)/\Q (.bl (bs.all id)) H):=by subst hK;intro bv s Z H xs us Q I r ⟨p,ns,h1,h2,h3⟩;exact PY bv s Z H xs us Q I r ⟨p,ns,hc,h1,h2,h3⟩
def dI(hK:X.K=K:=by rfl):kY X (binaryOp .Add) (Uv K):=by subst hK;exact SH
def bH{l:Expr}(hl:PE X l tl)(hK:X.K=K:=by rfl):PI X tg l (Uo K tl):=by subst hK;exact Rz hl
def iS{j:Nat}{y:Str}{px py:Pos}{k:Nat}(hc:X.calm=true)(hN:X.N.Nodup)(hi:X.N[i]?=some x)(hj:X.N[j]?=some y)(lx:í X.env.scope x)(ly:í X.env.scope y)(hK:X.K=K:=by rfl)(fx:X.fn x=true\/X.env.scope.names.lookup x=some .local:=by first|exact .inl rfl|exact .inr rfl)(fy:X.fn y=true\/X.env.scope.names.lookup y=some .local:=by first|exact .inl rfl|exact .inr rfl)(hs:(assignEach [.Name x px,.Name y py] X.env).map (·.2)=[assign (.Name x px) X.env,assign (.Name y py) X.env]:=by rfl)(By:(assignEach [.Name y py] X.env).map (·.2)=[assign (.Name y py) X.env]:=by rfl)(hs0:(assignEach [] X.env).map (·.2)=[]:=by rfl)(hn:(assignEach [.Name x px,.Name y py] X.env).length=2:=by rfl)(Bt:(assignEach [.Name x px,.Name y py] X.env).findIdx? (·.1)=none:=by rfl):
  PG X (.Tuple [.Name x px,.Name y py] k pos) (NM K 2 (ux (gX i) (ux (gX j) Oz))):=by
 subst hK;exact WK hc hN hi hj lx ly fx fy hs By hs0 hn Bt
def ff{o:Expr}{to:TE}{T id:String}(pa:PlainAttrs T)(slot:Slot T name id)(Yf:typeOf (.builtin id)=pure (.type "method_descriptor"))(hm:V2 X id r)(ho:PE X o to)(ha:PA X (e::es) t)(hK:X.K=K:=by rfl)(PK:attributeBase o name X.env (eval o X.env)=eval o X.env:=by rfl)(V7:((backTo kT (starEach (e::es) X.env)).all (λx=>!x.1)&&(backToKw kT (keywordEach [] X.env)).all (λx=>x.1.isSome)
   && decide ((e::es).length+([]:List Keyword).length+(if([]:List Keyword).isEmpty then 0 else 1)<30))=true:=by rfl)(PL:(apos.endLine==kT.line)=true:=by rfl)(hs:starEach (e::es) X.env=(false,eval e X.env)::starEach es X.env:=by rfl)(KU:(backTo kT (starEach es X.env)).any (·.1)=false:=by rfl):
  PE X (.Call (.Attribute o name apos) (e::es) [] kT) (tBM K T r to t):=by subst hK;exact Ye pa slot Yf hm ho ha PK V7 PL hs KU
end
def SQ(K:Ni)(neg:Bool):R2:=λx y H Q=>∃(a b:JY)(ys zs:List Int),x=.ref a/\y=.ref b/\aX K H a (ys.map V.int)/\aX K H b (zs.map V.int)/\Q (.bl (if neg then !decide (ys=zs)else decide (ys=zs))) H
def Gm(I:â X bv Z H s){aa gu:List JZ}(r1:aq (ys.map V.int) aa)(r2:aq (zs.map V.int) gu)(j:Nat)(h1:j<aa.toArray.size)(h2:j<gu.toArray.size):
  SeqAt.EqAt A s aa.toArray[j] gu.toArray[j] (ys.getD j 0==zs.getD j 0):=by
 obtain⟨x,hx,rx⟩:=i8 r1 j h1;obtain⟨y,hy,ry⟩:=i8 r2 j h2;obtain⟨u,Yu,rfl⟩:=dH hx;obtain⟨v,rf,rfl⟩:=dH hy;have:=AS (A:=A) (s:=s) rx ry rfl rfl;have e1:ys.getD j 0=u:=by simp[List.getD,Yu]
 have e2:zs.getD j 0=v:=by simp[List.getD,rf]
 rw[e1,e2];exact this
def yB(hl:ys.length=zs.length)(hn:n=ys.length):(List.range n).all (λj=>ys.getD j 0==zs.getD j 0)=decide (ys=zs):=by
 subst hn;by_cases h:ys=zs
 .subst h;simp
 rw[cL h,Jz];intro EZ;rw[og]at EZ;apply h;apply oo hl;intro i g1 g2;have:=EZ i (jL.mpr g1)
 simpa[List.getD,g1,g2]using this
def WM(hu:X.A.units+16<cLine):kY X (compareOp .Eq) (SQ X.K false):=by
 intro bv s Z H x y v u Q I rx ry h;obtain⟨a,b,ys,zs,rfl,rfl,ha,hb,q⟩:=h;cases rx;cases ry;obtain⟨aa,r1,p1,_⟩:=I.list ha;obtain⟨gu,r2,p2,_⟩:=I.list hb;have l1:=r1.length;have l2:=r2.length;rw[aJ]at l1 l2;by_cases hl:ys.length=zs.length
 .refine SeqAt.eq_listAt (e:=λj=>ys.getD j 0==zs.getD j 0) p1.isList p2.isList (by simp;lia) (by lia) (λj h1 h2=>Gm I r1 r2 j h1 h2) ?_;rw[yB hl (by simp;lia)];exact⟨.bl _,H,I,rfl,q⟩
 refine SeqAt.eq_list_lengthsAt p1.isList p2.isList (by simp;lia) (by lia) ?_;have e:decide (ys=zs)=false:=cL λz=>hl (by rw[z]);rw[e]at q;exact⟨.bl false,H,I,rfl,q⟩
def WN(hu:X.A.units+16<cLine):kY X (compareOp .NotEq) (SQ X.K true):=by
 intro bv s Z H x y v u Q I rx ry h;obtain⟨a,b,ys,zs,rfl,rfl,ha,hb,q⟩:=h;cases rx;cases ry;obtain⟨aa,r1,p1,_⟩:=I.list ha;obtain⟨gu,r2,p2,_⟩:=I.list hb;have l1:=r1.length;have l2:=r2.length;rw[aJ]at l1 l2;by_cases hl:ys.length=zs.length
 .refine aAo (SeqAt.RcNeAt.lists (e:=λj=>ys.getD j 0==zs.getD j 0) p1.isList p2.isList (by simp;lia) (by lia) λj h1 h2=>Gm I r1 r2 j h1 h2) ?_;rw[yB hl (by simp;lia)];exact⟨.bl _,H,I,rfl,q⟩
 refine aAo (SeqAt.RcNeAt.lists_lengths p1.isList p2.isList (by simp;lia) (by lia)) ?_;have e:decide (ys=zs)=false:=cL λz=>hl (by rw[z]);rw[e]at q;exact⟨.bl true,H,I,rfl,q⟩
def MP(K:Ni)(hu:X.A.units+16<cLine)(hK:X.K=K:=by rfl):kY X (compareOp .Eq) (SQ K false):=by subst hK;exact WM hu
def SR(K:Ni)(hu:X.A.units+16<cLine)(hK:X.K=K:=by rfl):kY X (compareOp .NotEq) (SQ K true):=by subst hK;exact WN hu
def turn_if{x:V}{A B:St->Hp->Prop}(h:tt (Z.set i (some x)) H λb H4=>if b=true then A (Z.set i (some x)) H4 else B (Z.set i (some x)) H4):gX i x Z H λσ3 H3=>tt σ3 H3 λb H4=>if b=true then A σ3 H4 else B σ3 H4:=h
def Ee(h1:lo<=hi)(h2:hi<=n):dN (cp n f) (some (lo:Int)) (some (hi:Int))=cp (hi-lo) λi=>f (lo+i):=by
 unfold dN;rw[HT.iQ,HT.iQ,aU,wW h2,wW (by lia)];apply mW;intro j;by_cases hj:j<hi-lo
 .rw[eJ hj,aAn hj,List.getElem?_drop,eJ (by lia)]
 rw[jG (by rw[cc,mX,aU];lia),jG (by rw[aU];lia)]
def KZ(h2:hi<=n):dN (cp n f) none (some (hi:Int))=cp hi f:=by
 have:=Ee (lo:=0) (f:=f) (bt hi) h2;have e:dN (cp n f) none (some (hi:Int))=dN (cp n f) (some ((0:Nat):Int)) (some (hi:Int)):=by unfold dN;rw[HT.iQ _ _ hi,HT.u4,HT.iQ _ _ 0,Nat.zero_min]
 rw[e,this];exact cR λi _=>by rw[Nat.zero_add]
def Ka(h2:lo<=n):dN (cp n f) (some (lo:Int)) none=cp (n-lo) λi=>f (lo+i):=by
 have:=Ee (f:=f) h2 (ae n);have e:dN (cp n f) (some (lo:Int)) none=dN (cp n f) (some (lo:Int)) (some (n:Int)):=by unfold dN;rw[HT.iQ,HT.iQ,HT.u4,aU,Nat.min_self]
 rw[e,this]
def SS{m:Nat}{g:Nat->V}:cp n f++cp m g=cp (n+m) λi=>if i<n then f i else g (i-n):=by
 apply mW;intro j;by_cases hj:j<n+m
 .rw[eJ hj];by_cases h:j<n
  .rw[wO (by rw[aU];exact h),eJ h,aL h]
  rw[zX (by rw[aU];lia),aU,eJ (by lia),aK h]
 rw[jG (by rw[bV,aU,aU];lia),jG (by rw[aU];lia)]
def NZ(n:Nat)(f:Nat->Int)(i:Nat)(h:i<n):((List.range n).map f).getD i 0=f i:=by simp[h]
def Itv(K:Ni)(a:JY)(xs:List V):It:=⟨λi H=>aX K H a xs/\i<xs.length,λi H x H'=>H'=H/\xs.reverse[i]?=some x,λi _=>xs.length<=i⟩
def Pe{P:Ja}{K:Ni}(a it:JY)(xs:List V):
  î P w K tg (Itv K a xs) [it] it (λi h=>i<=xs.length/\h.IsRevIter it a ((xs.length:Int)-1-(i:Int)))where
 mem:=by simp
 obj:=λi h st b hb=>by
  have e:b=it:=by simpa using hb
  subst e;obtain⟨_,o,e,c,d⟩:=st;exact⟨o,e,λv z=>by rw[d]at z;cases z⟩
 keep:=λi h h' st k=>⟨st.1,st.2.at λo e=>k it (by simp) o e⟩
 item:=by
  intro X hP hw hK hc i bv s Z H E I hf ⟨st0,st⟩ ⟨hq,hi⟩;subst hP hw hK;obtain⟨aa,rv,p,hz⟩:=I.list hq;have hl:=rv.length;have hx:xs.reverse[i]?=some xs[xs.length-1-i]:=by rw[Jm hi];simp
  have Uw:xs[xs.length-1-i]?=some xs[xs.length-1-i]:=by simp
  obtain⟨u,hu,ru⟩:=rv.get Uw;obtain⟨f0,f1,f2,f3,f4,f5⟩:=hf it (by simp);have e0:(xs.length:Int)-1-(i:Int)=((xs.length-1-i:Nat):Int):=by lia
  rw[e0]at st;refine wpAny_pyNext_rev_item st p.isList (x:=u) (by simpa using hu) λh' tq sb=>?_;have I1:â X bv Z H {s with heap:=h'}:=I.turned (t':=s.toks) (λb o hb e=>(sb.2 b hb).trans e) f0 f1 f3 f4 f5
  have e1:((xs.length-1-i:Nat):Int)-1=(xs.length:Int)-1-((i+1:Nat):Int):=by lia
  rw[e1]at tq;obtain⟨o,e,c,d⟩:=id tq;exact⟨u,rfl,AK (s:={s with heap:=h'}) e c d (by decide) ⟨_,H,I1,ru,⟨rfl,hx⟩,⟨hi,tq⟩,λb hb=>(hf b hb).1⟩⟩
 done:=by
  intro X hP hw hK hc i bv s Z H E I hf ⟨st0,st⟩ hg;subst hP hw hK;have hg':xs.length<=i:=hg;obtain⟨f0,f1,f2,f3,f4,f5⟩:=hf it (by simp);have e0:(xs.length:Int)-1-(i:Int)=-1:=by lia
  rw[e0]at st;exact wpAny_pyNext_rev_end (I.ok.hd hc) st λh' eb=>⟨rfl,I.turned (t':=s.toks) (λb o hb e=>eb b o hb e) f0 f1 f3 f4 f5⟩
 self:=λ_ _ _ _ _ st h=>wpAny_pyIter_revIter st.2 h
def aBT(K:Ni)(ta:TA):TI:=λZ H R=>ta Z H λvs H1=>∃a xs,vs=[.ref a]/\aX K H1 a xs/\R (Itv K a xs) H1
def Ef(K:Ni){ta:TA}(hg:Gl X "reversed")(hm:X.mg "reversed"=none)(ha:PA X [e] ta)(hK:X.K=K:=by rfl)(hs:starEach [e] X.env=[(false,eval e X.env)]:=by rfl)(GL:(backTo pos (starEach [] X.env)).any (·.1)=false:=by rfl):
  PI X tg (.Call (.Name "reversed" p) [e] [] pos) (aBT K ta):=by
 subst hK;intro bv s Z H R I h;refine oj (mh I hg hm boot_reversed ?_ (by decide) (by decide));refine xq (cC (ha pos bv s Z H _ I h) λus s1 h_=>?_) hs GL;obtain⟨vs,H1,I1,r1,q1⟩:=h_;obtain⟨a,xs,rfl,hx,q⟩:=q1;obtain⟨u,rfl,ru⟩:=r1.one;cases ru;obtain⟨aa,rv,p1,_⟩:=I1.list hx;have hl:=rv.length;refine call_reversed_list p1.isList ?_;have hit:(s1.heap.push (revObj a ((aa.toArray.size:Int)-1))).IsRevIter s1.heap.objs.size a ((aa.toArray.size:Int)-1):=⟨_,bK _ rfl,rfl,by unfold revObj;simp⟩;refine wpAny_pyIter_revIter hit ?_;have e0:(aa.toArray.size:Int)-1=(xs.length:Int)-1-((0:Nat):Int):=by simp;lia
 rw[e0]at hit ⊢;refine⟨s1.heap.objs.size,[s1.heap.objs.size],_,_,H1,rfl,I1.kept (t':=s1.toks) λb o e=>bG _ e,Pe a _ xs,⟨bt _,hit⟩,λb hb=>?_,q⟩;have e:b=s1.heap.objs.size:=by simpa using hb
 subst e;exact I1.yb (ae _) (I1.cI.fresh (ae _))
def SU{K:Ni}{xs:List V}{g:TG}{tb:TS}{D:ï}(Pv:Nat->St->Hp->Prop)(h0:Pv 0 Z H)(hl:∀i Z H,i<=xs.length->Pv i Z H->aX K H a xs)(hs:∀i x Z H,xs.reverse[i]?=some x->Pv i Z H->g x Z H (Bf tb D (Pv (i+1))))(hd:∀Z H,Pv xs.length Z H->D.nx Z H):EO (Itv K a xs) g tb D Z H:=by refine o3 xs.length Pv h0 (λi Z H lt p=>⟨⟨hl i Z H (gT lt) p,lt⟩,?_⟩) λZ H p=>⟨ae _,hd Z H p⟩;rintro x H' ⟨rfl,y⟩;exact hs i x Z _ y p
def Kb{it t:JY}{x:JZ}(hit:s.heap.IsTupleIter it t i)(ht:s.heap.IsTuple t items)(hx:items[i]?=some x)(hQ:∀h',h'.IsTupleIter it t (i+1)->Heap.SameBut it s.heap h'->Q x {s with heap:=h'}):wpAny (model prog w) A (Builtin.SmallTypes.nextOf (.ref it)) Q E s:=by obtain⟨o,ho,hc,hd⟩:=id hit;obtain⟨u,hu,_,m,du⟩:=ht;unfold Builtin.SmallTypes.nextOf;refine aG (xu (name:=Str.ofString "__next__") hit.typeIs DT (jo DT hit.typeIs F.entry_tuple_iterator_next ?_ (F.args_tuple_iterator_next_1 _)));refine(show wpAny _ _ (field (.ref it) 0 >>= _) _ _ s from aG (gO ho hd (x:=.ref t) rfl ?_));refine(show wpAny _ _ (if(Value.ref t==Value.none)=true then _ else _) _ _ s from ?_);rw[aK (by exact cG)];refine(show wpAny _ _ (field (.ref it) 1 >>= _) _ _ s from aG (gO ho hd (x:=.int i 0) rfl ?_));refine(show wpAny _ _ (seqItems? (.ref t) >>= _) _ _ s from aG (l7 hu du ?_));simp only[hx,dh];refine aG (EB ho hd (by simp) (aS ⟨x,rfl,aS (hQ _ ⟨_,xv _ ho (Obj.isFreed_of_fields (Dp hd _)),(Obj.cls_mapFields ..).trans hc,?_⟩ (rV ..))⟩));rw[Dp hd];simp[rawInt]
section
variable{K:Ni}{g:TG}{Q:VK}
end
structure Na(K:Ni)(a:JY)(xs:List V):Prop where
 ex:∃(o:Obj)(aa:Array JZ)(n:Nat),K.lookup a=some o/\o.cls=.type "tuple"/\o.data=.seq aa n/\aa.size<=sizeLine/\aq xs aa.toList
def Na.sq{K:Ni}{xs:List V}(h:Na K a xs)(H:Hp):bO K H a xs:=.inr h.ex
section
variable{K:Ni}{g:TG}{Q:VK}
def Pf{j:Nat}{x:V}{p:JY}{A:St->Hp->Prop}(hp:bO K H p [x,y])(h:A ((Z.set i (some x)).set j (some y)) H):NM K 2 (ux (gX i) (ux (gX j) Oz)) (.ref p) Z H A :=
 ⟨p,[x,y],rfl,hp,rfl,x,_,rfl,y,_,rfl,rfl,h⟩
end
section
variable{K:Ni}{g:TG}{Q:VK}
def SV(hn:n<=1000){H0:Hp}{σr:St}(hD:H0 D=none)(ht:∀(i:Nat)(H:Hp)(N:Bool->Hp->Prop),i<n->aI H0 H->(∀H',aI H H'->N (b i) H')->tt (some (.int (0+(i:Int)))::σr) H N)(he:∀(i:Nat)(H:Hp)(N:V->Hp->Prop),i<n->N (.int (0+(i:Int))) H->te (some (.int (0+(i:Int)))::σr) H N)(q:∀H,aI H0 H->H D=some (.lst (((List.range n).filter b).map λk=>V.int (k:Nat)))->Q (.ref D) H):
  oP (Vp 0 n) (gX 0) tt te D (none::σr) (ü H0 D (.lst [])) Q:=by
 have hsz:(2000:Nat)<=sizeLine:=by decide
 refine j3 (lo:=0) (n:=n) (λi Z H'=>∃v:Option V,Z=v::σr/\aI H0 H'/\H' D=some (.lst (((List.range i).filter b).map λk=>V.int (k:Nat)))) ⟨none,rfl,(aI.refl _).new hD,aB⟩ ?_ ?_
 .rintro i Z H' N hN hi ⟨v,rfl,s1,h1⟩;refine turn_if ?_;refine ht i H' _ hi s1 λH2 s2=>?_;have ef:(List.range (i+1)).filter b=(List.range i).filter b++if b i=true then[i]else[]:=by
   rw[Dy,Dh]
   congr 1
   by_cases e:b i=true<;>simp[e]
  by_cases e:b i=true
  .rw[e];refine ig (he i H2 _ hi ⟨_,s2 _ _ h1,?_,?_⟩)
   .rw[aJ];have:=List.length_filter_le b (List.range i);rw[wU]at this;lia
   refine hN _ _ ⟨_,rfl,(s1.trans s2).put hD,?_⟩;rw[aB,ef,aL e,bD];simp
  have e':b i=false:=by simpa using e
  rw[e'];refine c9 (hN _ _ ⟨_,rfl,s1.trans s2,?_⟩);rw[ef,aK e,tT];exact s2 _ _ h1
 rintro Z H' ⟨v,rfl,s1,h1⟩;exact q H' s1 h1
def Gn(ps:List Nat):(ps.map λk=>V.int (k:Nat))=ii ps.length λq=>((ps.getD q 0:Nat):Int):=by
 apply mW;intro j;by_cases hj:j<ps.length
 .rw[eJ hj,bh];simp[hj,List.getD]
 rw[jG (by rw[aJ];lia),jG (by rw[aU];lia)]
end
section
variable{P:Ja}{K:Ni}{à:Heap}
end
def aI.tup{K:Ni}{xs:List V}(e:aI H H')(h:bO K H a xs):bO K H' a xs:=by
 rcases h with(h|⟨o,h⟩)|h
 .exact .inl (.inl (e _ _ h))
 .exact .inl (.inr ⟨o,e _ _ h⟩)
 exact .inr h
def dP:PS X st (λ_ _ _=>False):=λ_ _ _ _ _ _ h=>h.elim
def Nb(K:Ni)(hc:X.calm=true)(hK:X.K=K:=by rfl):dt X (.builtin "any") (λxs H Q=>∃(p:JY)(bs:List Bool),xs=[.ref p]/\aX K H p (bs.map V.bl)/\Q (.bl (bs.any id)) H):=by
 subst hK;intro bv s Z H xs us Q I r h;obtain⟨p,bs,rfl,hq,q⟩:=h;obtain⟨u,rfl,rx⟩:=é r;cases rx;obtain⟨aa,r1,p1,_⟩:=I.list hq;have l1:=r1.length;rw[aJ]at l1;refine call_any_walk (tQ p1.isList ?_);have AX:p≠s.heap.objs.size:=by obtain⟨o,n,ho,_⟩:=p1;exact cg (bC ho)
 refine⟨_,_,_,aa.toArray.size,_,_,λi=>bs.getD i true,rfl,Walks.list (A:=X.A.in1) (I.ok.hd hc) s.heap.objs.size p AX aa.toArray,?_,?_,λh' tk kp=>?_⟩
 .exact⟨⟨_,bK _ rfl,rfl,rfl⟩,p1.isList.at λo e=>bG _ e⟩
 .intro i v s' Q' E' hv hQ;have hi:i<aa.length:=by have:=hv;simp only[zY]at this;exact(bq.mp this).1
  have hb:(bs.map V.bl)[i]?=some (V.bl bs[i]):=by simp[show i<bs.length by lia]
  obtain⟨u,hu,ru⟩:=r1.get hb;have e:u=v:=by simp only[zY]at hv;rw[hu]at hv;exact bR hv
  subst e;cases ru;refine lu ?_;have e2:bs.getD i true=bs[i]:=by simp[List.getD,show i<bs.length by lia]
  rw[<-e2];exact hQ
 have e:(List.range aa.toArray.size).any (λi=>bs.getD i true)=bs.any id:=by
  have hz:aa.toArray.size=bs.length:=by simp;lia
  rw[hz,jq];simp only[rY,jL,id];constructor
  .rintro⟨i,hi,hb⟩;exact⟨bs[i],jJ hi,by simpa[List.getD,hi]using hb⟩
  rintro⟨b,hb,hbt⟩;obtain⟨n,hn,rfl⟩:=eU hb;exact⟨n,hn,by simpa[List.getD,hn]using hbt⟩
 rw[e];exact⟨.bl (bs.any id),H,I.kept (t':=tk) λb o eb=>kp b o (by
  intro z;have hb:b=s.heap.objs.size:=by simpa using z
  exact absurd (bC eb) (by rw[hb];exact gR _)) (bG _ eb),rfl,q⟩
inductive Gp(K:Ni)(H:Hp):Nat->V->V->Prop where
 |flat {n:Nat} (x:V):jy x=true->Gp K H n x x
 |same {n:Nat} (a:JY):Gp K H n (.ref a) (.ref a)
 |lst {n:Nat} {a b:JY} {xs ys:List V} (ha:aX K H a xs) (hb:aX K H b ys) (hl:xs.length=ys.length) (h:∀(j:Nat)(x y:V),xs[j]?=some x->ys[j]?=some y->Gp K H n x y):Gp K H (n+1) (.ref a) (.ref b)
 |tup {n:Nat} {a b:JY} {xs ys:List V} (ha:bO K H a xs) (hb:bO K H b ys) (hl:xs.length=ys.length) (h:∀(j:Nat)(x y:V),xs[j]?=some x->ys[j]?=some y->Gp K H n x y):Gp K H (n+1) (.ref a) (.ref b)
def Pg:∀(x:V),jy x=true->Bv x x=true
 |.cX,_=>rfl
 |.bl b,_=>by simp[Bv]
 |.int i,_=>by simp[Bv]
 |.str z,_=>by simp[Bv]
 |.ref _,h=>absurd h (by intro z;cases z)
 |.ty _,h=>absurd h (by intro z;cases z)
def SW(I:â X bv Z H s){x:V}(h:Gp X.K H n x y):∀{A:Jd}{u v:JZ},A.units+n<cLine->æ x u->æ y v->SeqAt.EqAt A s u v true:=by
 induction h with
 |flat x fx=>intro A u v _ ru rv;have:=AS (A:=A) (s:=s) ru rv fx fx;rwa [Pg x fx]at this
 |same a=>intro A u v _ ru rv;cases ru;cases rv;exact tV _
 |@lst n a b xs ys ha hb hl h ih =>
  intro A u v hu ru rv;cases ru;cases rv;by_cases JQ:a=b
  .subst JQ;exact tV _
  obtain⟨aa,r1,p1,_⟩:=I.list ha;obtain⟨gu,r2,p2,_⟩:=I.list hb;have l1:=r1.length;have l2:=r2.length;refine tO JQ ?_;have q:=SeqAt.RcAt.lists (A:=A) (s:=s) (e:=λ_=>true) p1.isList p2.isList (by simp;lia) (by lia) λj h1 h2=>?_
  .rw[all_true]at q;exact q
  obtain⟨x,hx,rx⟩:=i8 r1 j h1;obtain⟨y,hy,ry⟩:=i8 r2 j h2;exact ih j x y hx hy (A:=A.in1) (by show A.units+1+n<cLine;lia) rx ry
 |@tup n a b xs ys ha hb hl h ih =>
  intro A u v hu ru rv;cases ru;cases rv;by_cases JQ:a=b
  .subst JQ;exact tV _
  obtain⟨aa,r1,p1,_⟩:=I.tuple ha;obtain⟨gu,r2,p2,_⟩:=I.tuple hb;have l1:=r1.length;have l2:=r2.length;refine tO JQ ?_;have q:=wV (A:=A) (s:=s) (e:=λ_=>true) (show s.heap.IsTuple a aa.toArray from p1) (show s.heap.IsTuple b gu.toArray from p2) (by lia) λj h1 h2=>?_
  .rw[all_true,Bool.true_and,show(aa.toArray.size==gu.toArray.size)=true by simp;lia]at q;exact q
  obtain⟨x,hx,rx⟩:=i8 r1 j h1;obtain⟨y,hy,ry⟩:=i8 r2 j h2;exact ih j x y hx hy (A:=A.in1) (by show A.units+1+n<cLine;lia) rx ry
def vG(K:Ni){l:Expr}(hl:PE X l tl)(hK:X.K=K:=by rfl):PI X tg l (YE K tl):=by subst hK;exact Vq hl
def cW(K:Ni)(hK:X.K=K:=by rfl):dt X (.type "tuple") (λxs H Q=>∃p ys,xs=[.ref p]/\((aX K H p ys/\∀l,H l=none->Q (.ref l) (ü H l (.tup ys)))\/(bO K H p ys/\Q (.ref p) H))):=by subst hK;exact B1
section
variable{K:Ni}{g:TG}{Q:VK}
def WO{xs:List V}(Pv:Nat->St->Hp->Prop)(h0:Pv 0 Z H)(hl:∀i Z H,i<=xs.length->Pv i Z H->bO K H a xs)(hs:∀(i:Nat)(x:V)(Z:St)(H:Hp)(N:St->Hp->Prop),(∀Z H,Pv (i+1) Z H->N Z H)->xs[i]?=some x->Pv i Z H->g x Z H (Lb tt te D N))(hd:∀Z H,Pv xs.length Z H->Q (.ref D) H):oP (Itt K a) g tt te D Z H Q:=by refine yA xs.length Pv h0 (λi Z H N hN lt p=>?_) λZ H p=>⟨⟨xs,hl _ Z H (ae _) p,ae _⟩,hd Z H p⟩;have q:=hl i Z H (gT lt) p;refine⟨⟨xs,xs[i],q,by simp[lt]⟩,?_⟩;rintro x H' ⟨rfl,y⟩;exact hs i x Z _ N hN (y xs q) p
end
def C0:∀{ns:List Int}{aa:List JZ},aq (ns.map V.int) aa->∃ps:List (Int×Tok),aa=ps.map (λq=>Value.int q.1 q.2)/\ps.map (·.1)=ns
 |[],_,.nil=>⟨[],rfl,rfl⟩
 |n::ns,_,.cons r rr=>by obtain⟨t,rfl⟩:=r;obtain⟨ps,rfl,e⟩:=C0 rr;exact⟨(n,t)::ps,rfl,by rw[bz,e]⟩
def Nd(hc:X.calm=true):dt X (.builtin "min") (λxs H Q=>∃(p:JY)(ns:List Int),xs=[.ref p]/\aX X.K H p (ns.map V.int)/\ns≠[]/\∀M,M∈ns->(∀a∈ns,M<=a)->Q (.int M) H):=by
 intro bv s Z H xs us Q I r h;obtain⟨p,ns,rfl,hq,AX,q⟩:=h;obtain⟨u,rfl,rx⟩:=é r;cases rx;obtain⟨aa,r1,p1,_⟩:=I.list hq;obtain⟨ps,rfl,eps⟩:=C0 r1;have hh:X.A.handled=none:=I.ok.hd hc;have hsz:0<ps.length:=by
  rcases ps with _|⟨a,b⟩
  .exact absurd eps.symm AX
  simp
 refine min_intList (xs:=ps.toArray) hh (by simpa[intItems]using p1.isList) (by simpa using hsz) λv h' tk hv hk=>?_;obtain⟨t,rfl⟩:=intItems_at hv;obtain⟨h1,h2⟩:=argBest_lt (numAt ps.toArray) (ps.toArray.size-1);refine⟨.int _,H,I.kept (t':=tk) hk,⟨t,rfl⟩,q _ ?_ λa ha=>?_⟩
 .rw[<-eps,numAt_eq];exact getD_mem (by simp at h1 ⊢;lia)
 rw[<-eps]at ha;obtain⟨j,hj,rfl⟩:=mem_getD ha;rw[aJ]at hj;have:=h2 j (by simp;lia);rw[numAt_eq,numAt_eq]at this;rw[numAt_eq];exact this
def aBV(K:Ni):List V->Hp->VK->Prop:=λxs H Q=>∃(p:JY)(ns:List Int),xs=[.ref p]/\aX K H p (ns.map V.int)/\ns≠[]/\∀M,M∈ns->(∀a∈ns,M<=a)->Q (.int M) H
def Nf(K:Ni)(hc:X.calm=true:=by rfl)(hK:X.K=K:=by rfl):dt X (.builtin "min") (aBV K):=by subst hK;exact Nd hc
section
variable(P:Ja)(w:Jb)
end
section
variable{P:Ja}{o:HO}
end
section
variable{P:Ja}{x e:JY}{o':HO}
end
section
variable{fs fs' ex ex':List JY}{H1 H2:Hp}{h1 h2:Heap}{x e:JY}{o:HO}
end
section
variable{Z:List (Option V)}
end
section
variable{a b:Expr}
variable{tA X6:TT}{û:List Expr}
end
section
variable{xs ys:List V}
end
section
variable{û:List Stmt}{t u:TS}
end
section
variable{a b c:Expr}{tc:TE}
end
section
variable{a b c:Expr}{tc:TE}
end
section
variable{K:Ni}{x f:JY}{v:JZ}
end
section
variable{P:Ja}
end
section
variable{f:Str}{v:V}
end
section
variable{o:Expr}{f:Str}{YS:Pos}
end
section
variable{c:JZ}{b:Bool}
end
section
variable{s':JX}
end
section
variable{k:Nat}{f:JY}{E:XK}{m:Str}{o:Expr}
end
section
variable{k:Nat}{f:JY}{ks:List Str}{E:XK}{m:Str}{aB5:Pos}{o:Expr}{tk:TA}
end
section
variable{id T:String}{r:List V->Hp->VK->Prop}
end
section
variable{κ:Type}[DecidableEq κ]
def uD(jp:List (κ×V))(k:κ):Option V:=(jp.find? λkv=>decide (kv.1=k)).map (·.2)
def io(jp:List (κ×V))(k:κ)(v:V):List (κ×V) :=
 if(jp.any λkv=>decide (kv.1=k))=true then jp.map (λkv=>if kv.1=k then(kv.1,v)else kv)else jp++[(k,v)]
def Ab{p:κ×V}{r:List (κ×V)}{k:κ}(e:p.1=k):uD (p::r) k=some p.2:=by simp[uD,ia,e]
def Ac{p:κ×V}{r:List (κ×V)}{k:κ}(e:¬p.1=k):uD (p::r) k=uD r k:=by simp[uD,ia,e]
def Gq(k:κ):∀jp:List (κ×V),(jp.any λkv=>decide (kv.1=k))=(uD jp k).isSome
 |[]=>rfl
 |p::r=>by
  rw[zy];by_cases e:p.1=k
  .simp only[Ab e,bw e,Bool.true_or,Option.isSome_some]
  rw[Ac e,cL e,Bool.false_or];exact Gq k r
def ke(jp:List (κ×V))(k:κ)(v:V):(io jp k v).length<=jp.length+1:=by
 unfold io;split
 .rw[aJ];lia
 rw[bV,cQ,List.length_nil];lia
def l8.gb{u:Option JZ}(r:l8 o u):o.isSome=u.isSome:=by
 cases o with
 |none=>cases u with
  |none=>rfl
  |some _=>exact(show False from r).elim
 |some _=>cases u with
  |none=>exact(show False from r).elim
  |some _=>rfl
def l8.getD{o:Option V}{u:Option JZ}{d:V}{d':JZ}(r:l8 o u)(rd:æ d d'):æ (o.getD d) (u.getD d'):=by
 cases o with
 |none=>cases u with
  |none=>exact rd
  |some _=>exact(show False from r).elim
 |some _=>cases u with
  |none=>exact(show False from r).elim
  |some _=>exact r
def KV.val{jp:List (κ×V)}{vs:List (κ×JZ)}(r:KV jp vs)(k:κ):l8 (uD jp k) (valueAt vs k):=by
 unfold KV at r
 induction r with
 |nil=>exact True.intro
 |@cons p q ps qs h t ih =>
  obtain⟨h1,h2⟩:=h;by_cases e:p.1=k
  .have e':q.1=k:=h1.symm.trans e;have b:valueAt (q::qs) k=some q.2:=(by simp[valueAt,ia,e']);rw[Ab e,b];exact h2
  have e':¬q.1=k:=λz=>e (h1.trans z);have b:valueAt (q::qs) k=valueAt qs k:=by simp[valueAt,ia,e']
  rw[Ac e,b];exact ih
def KV.any{jp:List (κ×V)}{vs:List (κ×JZ)}(r:KV jp vs)(k:κ):(jp.any λkv=>decide (kv.1=k))=vs.any λkv=>decide (kv.1=k):=by
 unfold KV at r
 induction r with
 |nil=>rfl
 |cons h t ih=>rw[zy,zy,ih,h.1]
def KV.Ph{jp:List (κ×V)}{vs:List (κ×JZ)}(r:KV jp vs)(k:κ)(ry:æ y u):
  KV (jp.map λkv=>if kv.1=k then(kv.1,y)else kv) (vs.map λkv=>if kv.1=k then(kv.1,u)else kv):=by
 unfold KV at r ⊢
 induction r with
 |nil=>exact .nil
 |@cons p q ps qs h t ih =>
  rw[bz,bz];refine .cons ?_ ih;obtain⟨h1,h2⟩:=h;by_cases e:p.1=k
  .rw[aL e,aL (h1.symm.trans e)];exact⟨h1,ry⟩
  rw[aK e,aK (λz=>e (h1.trans z))];exact⟨h1,h2⟩
def KV.put{jp:List (κ×V)}{vs:List (κ×JZ)}(r:KV jp vs)(k:κ)(ry:æ y u):KV (io jp k y) (stored vs k u):=by
 unfold io stored;rw[r.any k];by_cases e:(vs.any λkv=>decide (kv.1=k))=true
 .rw[aL e,aL e];exact r.Ph k ry
 rw[aK e,aK e];exact Paired.snoc r ⟨rfl,ry⟩
def KV.length{jp:List (κ×V)}{vs:List (κ×JZ)}(r:KV jp vs):jp.length=vs.length:=md r
end
def Ae{P:Ja}{k:ä}(r:æ (kV k) u):(aw P w).is k u=true:=by
 cases k with
 |inl i=>obtain⟨t,e⟩:=(show ∃t,u=Value.int i t from r);subst e;exact xw P w i t
 |inr x=>obtain⟨t,e⟩:=(show ∃t,u=Value.str x t from r);subst e;exact xx P w x t
def C1{P:Ja}{w:Jb}:∀{ks:List ä}{us:List JZ},aq (ks.map kV) us->ItemsAre (aw P w) ks us
 |[],_,r=>by rw[ED]at r;cases r;exact .nil
 |k::ks,_,r=>by
  rw[bz]at r;cases r with
  |cons h t=>exact .cons (Ae h) (C1 t)
abbrev KT(H:Hp):List (List ä×V)->List (List ä×JY×JZ)->Prop:=Paired λp q=>p.1=q.1/\H q.2.1=some (.tup (p.1.map kV))/\æ p.2 q.2.2
def KT.val(r:KT H jp xs)(k:List ä):l8 (uD jp k) ((atKey xs k).map (·.2)):=by
 induction r with
 |nil=>exact True.intro
 |@cons p q ps qs h t ih =>
  obtain⟨h1,_,h2⟩:=h;by_cases e:p.1=k
  .have e':q.1=k:=h1.symm.trans e;have b:atKey (q::qs) k=some q.2:=(by simp[atKey,ia,e']);rw[Ab e,b];exact h2
  have e':¬q.1=k:=λz=>e (h1.trans z);have b:atKey (q::qs) k=atKey qs k:=by simp[atKey,ia,e']
  rw[Ac e,b];exact ih
def KT.Ph(r:KT H jp xs)(k:List ä)(ry:æ y u):
  KT H (jp.map λkv=>if kv.1=k then(kv.1,y)else kv) (xs.map (putAt k u)):=by
 induction r with
 |nil=>exact .nil
 |@cons p q ps qs h t ih =>
  rw[bz,bz];refine .cons ?_ ih;obtain⟨h1,h2,h3⟩:=h;unfold putAt;by_cases e:p.1=k
  .rw[aL e,aL (h1.symm.trans e)];exact⟨h1,h2,ry⟩
  rw[aK e,aK (λz=>e (h1.trans z))];exact⟨h1,h2,h3⟩
def KT.put(r:KT H jp xs)(k:List ä){b:JY}(hb:H b=some (.tup (k.map kV)))(ry:æ y u):
  KT H (io jp k y) (storedH xs k b u):=by
 have e:(jp.any λkv=>decide (kv.1=k))=(atKey xs k).isSome:=by rw[Gq,(r.val k).gb,uu]
 unfold io storedH;rw[e];by_cases q:(atKey xs k).isSome=true
 .rw[aL q,aL q];exact r.Ph k ry
 rw[aK q,aK q];exact Paired.snoc r ⟨rfl,hb,ry⟩
def KT.keeps(r:KT H jp xs)(ht:∀b ys,H b=some (.tup ys)->H' b=some (.tup ys)):KT H' jp xs :=
 Paired.Vc r λ_ _ z=>⟨z.1,ht _ _ z.2.1,z.2.2⟩
section
variable{P:Ja}
def Ux{u:HO}(ok:tZ P w H h)(e:Rd H a u):cY P w H h a u:=e.ok ok
def Gs{jp:List (ä×V)}(ok:tZ P w H h)(e:Rd H a (.dK jp)):jp.length<=sizeLine/\(a==sysModules)=false/\∃vs,KV jp vs/\h.DictOf (aw P w) a vs :=
 show cY P w H h a (.dK jp)from Ux ok e
def Uy{jp:List (ä×V)}(ok:tZ P w H h)(e:H a=some (.dK jp)):jp.length<=sizeLine/\(a==sysModules)=false/\∃vs,KV jp vs/\h.DictOf (aw P w) a vs:=Gs ok (.inl e)
def Af{ks:List ä}(ok:tZ P w H h)(e:H a=some (.tup (ks.map kV))):(tupleKind (aw P w)).is h ks a:=by obtain⟨_,aa,r,o,h1,h2,n,h3⟩:=(show cY P w H h a (.tup (ks.map kV))from ok a _ e);exact⟨o,aa.toArray,n,h1,h2,h3,by simpa using C1 r⟩
def Gu(ok:tZ P w H h)(e:Rd H a (.dT jp)):jp.length<=sizeLine/\(a==sysModules)=false /\
  ∃xs,KT H jp xs/\h.DictOfH (tupleKind (aw P w)) a xs:=by
 obtain⟨z,y,xs,r,o,es,ep,h1,h2,h3,h4,h5⟩:=(show cY P w H h a (.dT jp)from Ux ok e);refine⟨z,y,xs,r,o,es,ep,h1,h2,h3,h4,λx hx=>?_,h5⟩;have all:∀{l:List (List ä×V)}{m:List (List ä×JY×JZ)},KT H l m->∀x∈m,(tupleKind (aw P w)).is h x.1 x.2.1:=by
  intro l m q
  induction q with
  |nil=>intro x hx;exact nomatch hx
  |@cons p q ps qs hq t ih =>
   intro x hx;rcases au.mp hx with e|hx
   .subst e;exact Af ok (by rw[<-hq.1];exact hq.2.1)
   exact ih x hx
 exact all r x hx
def Yv(ok:tZ P w H h)(e:H a=some (.dT jp)):jp.length<=sizeLine/\(a==sysModules)=false /\
  ∃xs,KT H jp xs/\h.DictOfH (tupleKind (aw P w)) a xs:=Gu ok (.inl e)
end
def gg(H:Hp)(a:JY)(y:V)(r:Option V):Prop :=
 (∃jp k,Rd H a (.dK jp)/\y=kV k/\r=uD jp k)\/∃jp k b,Rd H a (.dT jp)/\y=.ref b/\H b=some (.tup (k.map kV))/\r=uD jp k
def Yw(H:Hp)(a:JY)(y v:V)(H':Hp):Prop :=
 (∃jp k,H a=some (.dK jp)/\y=kV k/\jp.length<sizeLine/\H'=ü H a (.dK (io jp k v))) \/
 ∃jp k b,H a=some (.dT jp)/\y=.ref b/\H b=some (.tup (k.map kV))/\jp.length<sizeLine/\H'=ü H a (.dT (io jp k v))
def gg.k{H:Hp}{a:JY}{jp:List (ä×V)}{k:ä}(e:H a=some (.dK jp)):gg H a (kV k) (uD jp k):=.inl ⟨jp,k,.inl e,rfl,rfl⟩
section
variable{v:V}{r:JZ}
def â.big(I:â X bv Z H s):sysModules<s.heap.objs.size:=by have h:mainGlobals<s.heap.objs.size:=(I.mod.glob.keeps I.bk).lt;exact Nat.lt_trans (by decide) h
def Ng(hu:A.units+1<cLine)(I:â X bv Z H s)(g:gg H a y (some v))(ry:æ y u)(h:∀w' s',â X bv Z H s'->æ v w'->Q w' s'):
  wpAny (model X.prog X.w) A (getItem (.ref a) u) Q E s:=by
 rcases g with⟨jp,k,e,ey,l⟩|⟨jp,k,b,e,ey,eb,l⟩
 .subst ey;obtain⟨z,hd,vs,rel,dd⟩:=Gs I.cI e;obtain⟨w',hw,NS⟩:=l8.some_of (v:=v) (o:=valueAt vs k) (by rw[l];exact rel.val k);exact wpAny_getItem_of (Ae ry) dd.mapOf hw (h w' _ (I.tok _) NS)
 subst ey;cases(show u=Value.ref b from ry);obtain⟨z,hd,xs,rel,dd⟩:=Gu I.cI e;obtain⟨w',hw,NS⟩:=l8.some_of (v:=v) (o:=(atKey xs k).map (·.2)) (by rw[l];exact rel.val k);obtain⟨p,hp,uE⟩:=gk.mp hw;refine wpAny_getItem_heap (Dn hu) (Af I.cI eb) dd hp ?_;rw[uE];exact h w' _ (I.tok _) NS
def aBW(hu:A.units+1<cLine)(I:â X bv Z H s)(g:gg H a y o)(ry:æ y u)(h:∀s',â X bv Z H s'->Q (.bool o.isSome) s'):
  wpAny (model X.prog X.w) A (compareOp .In u (.ref a)) Q E s:=by
 rcases g with⟨jp,k,e,ey,l⟩|⟨jp,k,b,e,ey,eb,l⟩
 .subst ey;obtain⟨z,hd,vs,rel,dd⟩:=Gs I.cI e;refine wpAny_in_of (Ae ry) hd dd.mapOf ?_;rw[<-(rel.val k).gb,<-l];exact h _ (I.tok _)
 subst ey;cases(show u=Value.ref b from ry);obtain⟨z,hd,xs,rel,dd⟩:=Gu I.cI e;refine wpAny_in_heap (Dn hu) (Af I.cI eb) hd dd ?_;have q:=(rel.val k).gb;rw[uu]at q;rw[<-q,<-l];exact h _ (I.tok _)
def SY(hu:A.units+1<cLine)(I:â X bv Z H s)(g:gg H a y o)(ry:æ y u)(h:∀s',â X bv Z H s'->Q (.bool (!o.isSome)) s'):
  wpAny (model X.prog X.w) A (compareOp .NotIn u (.ref a)) Q E s:=by
 rcases g with⟨jp,k,e,ey,l⟩|⟨jp,k,b,e,ey,eb,l⟩
 .subst ey;obtain⟨z,hd,vs,rel,dd⟩:=Gs I.cI e;refine wpAny_notIn_of (Ae ry) hd dd.mapOf ?_;rw[<-(rel.val k).gb,<-l];exact h _ (I.tok _)
 subst ey;cases(show u=Value.ref b from ry);obtain⟨z,hd,xs,rel,dd⟩:=Gu I.cI e;refine wpAny_notIn_heap (Dn hu) (Af I.cI eb) hd dd ?_;have q:=(rel.val k).gb;rw[uu]at q;rw[<-q,<-l];exact h _ (I.tok _)
def zC{t':Nat}{ob:HO}(I:â X bv Z H s)(mu:Xb (H a))(hs:Heap.SameBut a s.heap h')(he:∃q,h'.get? a=some q)(new:cY X.prog X.w (ü H a ob) h' a ob):
  â X bv Z (ü H a ob) {s with heap:=h',toks:=t'} :=
 I.write (x:=a) (e:=a) mu (.inl rfl) (λb q hb z=>(hs.2 b hb).trans z) he new
def Kc{P:Ja}{jp:List (ä×V)}(z:jp.length<=sizeLine)(hd:(a==sysModules)=false)(rel:KV jp vs)(dd:h'.DictOf (aw P w) a vs):
  cY P w H' h' a (.dK jp):=⟨z,hd,vs,rel,dd⟩
def Nh{Q:Unit->JX->Prop}(hu:A.units+1<cLine)(I:â X bv Z H s)(g:Yw H a y v H')(ry:æ y u)(rv:æ v r)(h:∀s',â X bv Z H' s'->Q () s'):
  wpAny (model X.prog X.w) A (setItem (.ref a) u r) Q E s:=by
 rcases g with⟨jp,k,e,ey,l,eH⟩|⟨jp,k,b,e,ey,eb,l,eH⟩
 .subst ey eH;obtain⟨z,hd,vs,rel,dd⟩:=Uy I.cI e;have hz:vs.length<=sizeLine:=by rw[<-rel.length];exact z
  have hl:(io jp k v).length<=sizeLine:=by have:=ke jp k v;lia
  refine wpAny_setItem_pairs (hsz:=hz) (Ae ry) dd λh' Pj hs=>h _ ?_;have he:∃q,h'.get? a=some q:=let⟨q,_,_,hq,_⟩:=Pj;⟨q,hq⟩;exact zC I (by rw[e];exact True.intro) hs he (Kc hl hd (rel.put k rv) Pj)
 subst ey eH;cases(show u=Value.ref b from ry);obtain⟨z,hd,xs,rel,dd⟩:=Yv I.cI e;have hz:xs.length<=sizeLine:=by rw[<-md rel];exact z
 have hl:(io jp k v).length<=sizeLine:=by have:=ke jp k v;lia
 refine wpAny_setItem_heap (hsz:=hz) (Dn hu) (Af I.cI eb) dd λh' Pj hs=>h _ ?_;obtain⟨q,es,ep,hq,h2,h3,h4,_,h5⟩:=Pj;refine zC I (by rw[e];exact True.intro) hs ⟨q,hq⟩ ⟨hl,hd,_,(rel.put k eb rv).keeps λc ys ec=>?_,q,es,ep,hq,h2,h3,h4,h5⟩;rw[aN (xy ec e (λz=>nomatch z))]
 exact ec
end
section
variable{jp:List (ä×V)}{k:ä}
end
def WQ(i:Expr):Prop:=∀ov iv,subscripted i false ov iv=operate [ov,iv] (getItem ov iv)
def MQ{env:Env}{slice:Expr}{T id:String}(hl:typeLookup (.type T) "__getitem__"=pure (some (.builtin id)))(hs:WQ slice)(h:wpAny (model prog w) A (eval value env) (λo s₁=>wpAny (model prog w) A (eval slice env) (λi s₂=>s₂.TypeIs o T/\wpAny (model prog w) A (getItem o i) Q E s₂) E s₁) E s):
  wpAny (model prog w) A (eval (.Subscript value slice pos) env) Q E s:=by
 refine Subscript_ (gW h (λo s₁ h₁=>gW h₁ (λi s₂ h₂=>?_) λ_ _ x=>x) λ_ _ x=>x);obtain⟨hT,h₂⟩:=h₂;unfold subscriptTail;refine aG ?_;rw[getitemInPython_of_ne hT.not_modules];refine aG (mZ hT hl ?_);have fin:wpAny (model prog w) A (subscripted slice false o i) (λr s₃=>wpAny (model prog w) A (letTemporaryGo value o r >>= λ_=>pure r) Q E s₃) E s₂:=by rw[hs o i];exact wpAny_operating (gW h₂ (λr s₃ h₃=>aG (wpAny_letTemporaryGo (aS h₃))) λ_ _ x=>x)
 first
  |exact aS (aG fin)
  |exact aG (aS (aG fin))
  |exact aG fin
def Gv(I:â X bv Z H s)(g:gg H a y o):s.TypeIs (.ref a) "dict":=by
 rcases g with⟨jp,k,e,_,_⟩|⟨jp,k,b,e,_,_,_⟩
 .obtain⟨_,_,vs,_,dd⟩:=Gs I.cI e;exact dd.typeIs
 obtain⟨_,_,xs,_,dd⟩:=Gu I.cI e;exact dd.typeIs
def Yx(td ty:TE):TE:=λZ H Q=>td Z H λx H1=>ty Z H1 λy H2=>∃a v,x=.ref a/\gg H2 a y (some v)/\Q v H2
def aBX(ty td:TE):TE:=λZ H Q=>ty Z H λy H1=>td Z H1 λx H2=>∃a o,x=.ref a/\gg H2 a y o/\Q (.bl o.isSome) H2
def Sa(ty td:TE):TE:=λZ H Q=>ty Z H λy H1=>td Z H1 λx H2=>∃a o,x=.ref a/\gg H2 a y o/\Q (.bl (!o.isSome)) H2
def Yy(td ty tv:TE):TS:=λD Z H=>tv Z H λv H1=>td Z H1 λx H2=>ty Z H2 λy H3=>∃a H4,x=.ref a/\Yw H3 a y v H4/\D.nx Z H4
section
variable{o i:Expr}{YS:Pos}{td ty:TE}
def iT(hu:X.A.units+1<cLine)(ho:PE X o td)(hi:PE X i ty)(hs:WQ i):PE X (.Subscript o i pos) (Yx td ty):=by intro bv s Z H Q I h;refine MQ PySem.F.slot_dict_getitem.lookup hs (cC (ho bv s Z H _ I h) λu s1 ⟨x,H1,I1,rx,q1⟩=>cC (hi bv s1 Z H1 _ I1 q1) λiv s2 h_=>?_);obtain⟨y,H2,I2,ry,a,v,ex,g,q2⟩:=h_;subst ex;obtain rfl:u=Value.ref a:=rx;exact⟨Gv I2 g,Ng hu I2 g ry λw' s3 I3 NS=>⟨v,H2,I3,NS,q2⟩⟩
def Pk(hu:X.A.units+1<cLine)(hi:PE X i ty)(ho:PE X o td):PC X .In i o (aBX ty td):=by intro bv s Z H Q I h;refine cC (hi bv s Z H _ I h) λiv s1 ⟨y,H1,I1,ry,q1⟩=>cC (ho bv s1 Z H1 _ I1 q1) λu s2 h_=>?_;obtain⟨x,H2,I2,rx,a,ov,ex,g,q2⟩:=h_;subst ex;obtain rfl:u=Value.ref a:=rx;exact aBW hu I2 g ry λs3 I3=>⟨.bl ov.isSome,H2,I3,rfl,q2⟩
def xF(hu:X.A.units+1<cLine)(hi:PE X i ty)(ho:PE X o td):PC X .NotIn i o (Sa ty td):=by intro bv s Z H Q I h;refine cC (hi bv s Z H _ I h) λiv s1 ⟨y,H1,I1,ry,q1⟩=>cC (ho bv s1 Z H1 _ I1 q1) λu s2 h_=>?_;obtain⟨x,H2,I2,rx,a,ov,ex,g,q2⟩:=h_;subst ex;obtain rfl:u=Value.ref a:=rx;exact SY hu I2 g ry λs3 I3=>⟨.bl (!ov.isSome),H2,I3,rfl,q2⟩
def MR(hu:X.A.units+1<cLine)(ho:PE X o td)(hi:PE X i ty)(hv:PE X value tv)(hs:swapsWith value (some (.Subscript o i pos')) pos.line X.env=pure false):
  PS X (.Assign [.Subscript o i pos'] value pos) (Yy td ty tv):=by
 intro bv s Z H D I h;refine wpAny_Assign_Subscript (cC (hv bv s Z H _ I h) λr s1 ⟨v,H1,I1,rv,q1⟩=>cC (ho bv s1 Z H1 _ I1 q1) λu s2 ⟨x,H2,I2,rx,q2⟩=>cC (hi bv s2 Z H2 _ I2 q2) λiv s3 h_=>?_) hs;obtain⟨y,H3,I3,ry,a,H4,ex,g,q3⟩:=h_;subst ex;obtain rfl:u=Value.ref a:=rx;exact Nh hu I3 g ry rv λs4 I4=>⟨Z,H4,I4,q3⟩
end
def Gw{P:Ja}(h:Heap)(hb:sysModules<h.objs.size):cY P w H (h.push ox) h.objs.size (.dK []) :=
 ⟨bt _,tK.mpr (bS (cg hb)),[],.nil,Heap.DictOf.new h⟩
def WR:TE:=λ_ H Q=>∀p,H p=none->Q (.ref p) (ü H p (.dK []))
def Pl:PE X (.Dict [] [] pos) WR:=λbv s Z H Q I h =>
 wpAny_Dict_empty ⟨.ref s.heap.objs.size,_,I.laid (a:=s.heap.objs.size) (o:=.dK []) (t':=s.toks) (λ_ _ q=>bG _ q) (ae _) (Gw s.heap I.big),rfl,h _ (I.cI.fresh (ae _))⟩
def Kd:List (TE×TE)->St->Hp->(List (V×V)->Hp->Prop)->Prop
 |[],_,H,Q=>Q [] H
 | (tk,tv)::r,Z,H,Q=>tk Z H λx H1=>tv Z H1 λy H2=>Kd r Z H2 λps H3=>Q ((x,y)::ps) H3
abbrev VV:List (V×V)->List (JZ×JZ)->Prop:=Paired λp q=>æ p.1 q.1/\æ p.2 q.2
def PPs(X:Cx)(pos:Pos)(keys:List (Option Expr))(values:List Expr)(Sb:List (TE×TE)):Prop :=
 ∀(bv:List (JY×Obj))(s:JX)(Z:St)(H:Hp)(Q:List (V×V)->Hp->Prop),â X bv Z H s->Kd Sb Z H Q ->
  wX X (evalPairs (pairTrees keys values X.env pos)) (λvs s'=>∃ps H',â X bv Z H' s'/\VV ps vs/\Q ps H') X.xe s
def Sd:PPs X pos [] [] []:=λbv s Z H Q I h=>pairTrees_nil_walk ⟨[],H,I,.nil,h⟩
def Pm{k v:Expr}{vs:List Expr}{tk:TE}(hk:PE X k tk)(hv:PE X v tv)(hr:PPs X pos ks vs Sb):
  PPs X pos (some k::ks) (v::vs) ((tk,tv)::Sb):=λbv s Z H Q I h =>
 pairTrees_cons_walk (cC (hk bv s Z H _ I h) λu s1 ⟨x,H1,I1,rx,q1⟩=>cC (hv bv s1 Z H1 _ I1 q1) λw2 s2 ⟨y,H2,I2,ry,q2⟩ =>
  cC (hr bv s2 Z H2 _ I2 q2) λws s3 ⟨ps,H3,I3,rel,q3⟩=>⟨(x,y)::ps,H3,I3,.cons ⟨rx,ry⟩ rel,q3⟩)
def o8(jp more:List (ä×V)):List (ä×V):=more.foldl (λÿ kv=>io ÿ kv.1 kv.2) jp
def KV.merge:∀{more:List (ä×V)}{rs:List (ä×JZ)}{jp:List (ä×V)}{vs:List (ä×JZ)},KV more rs->KV jp vs->KV (o8 jp more) (merged vs rs):=by
 intro more rs jp vs r;unfold KV at r
 induction r generalizing jp vs with
 |nil=>intro q;exact q
 |@cons p q ps qs h t ih =>
  intro r0;have e:KV (io jp p.1 p.2) (stored vs q.1 q.2):=by have:=r0.put p.1 h.2;rw[<-h.1];exact this
  exact ih e
def rm:∀(more jp:List (ä×V)),(o8 jp more).length<=jp.length+more.length
 |[],jp=>by show jp.length<=jp.length+0;lia
 |p::r,jp=>by have h1:=rm r (io jp p.1 p.2);have h2:=ke jp p.1 p.2;show(o8 (io jp p.1 p.2) r).length<=_;rw[cQ];lia
def Ag{P:Ja}{w:Jb}:∀{jp:List (ä×V)}{ws:List (JZ×JZ)},VV (jp.map λkv=>(kV kv.1,kv.2)) ws->∃rs,Carries (aw P w) ws rs/\KV jp rs
 |[],_,r=>by rw[ED]at r;cases r;exact⟨[],True.intro,.nil⟩
 |p::jp,_,r=>by
  rw[bz]at r;cases r with
  |@cons a b as bs h t =>
   obtain⟨rs,c,q⟩:=Ag (P:=P) (w:=w) t;obtain⟨b1,b2⟩:=b;exact⟨(p.1,b2)::rs,⟨Ae h.1,rfl,c⟩,.cons ⟨rfl,h.2⟩ q⟩
def Uz(Sb:List (TE×TE)):TE:=λZ H Q=>∀p,H p=none->Kd Sb Z (ü H p (.dK [])) λps H2=>H2 p=some (.dK [])/\∃jp:List (ä×V),ps=jp.map (λkv=>(kV kv.1,kv.2))/\jp.length<=15/\Q (.ref p) (ü H2 p (.dK (o8 [] jp)))
def Se(h:PPs X pos keys values Sb)(EZ:keys.all (·.isSome)=true)(hl:keys.length=values.length)(h0:keys≠[])(h15:keys.length<=15):PE X (.Dict keys values pos) (Uz Sb):=by
 intro bv s Z H Q I q;have hn:=I.cI.fresh (ae s.heap.objs.size);have I1:=I.laid (a:=s.heap.objs.size) (o:=.dK []) (h':=s.heap.push ox) (t':=s.toks) (λ_ _ q=>bG _ q) (ae _) (Gw s.heap I.big);refine wpAny_Dict_walk (knd:=aw X.prog X.w) EZ hl h0 h15 (cC (h bv _ Z _ _ I1 (q _ hn)) λws s2 h_=>?_);obtain⟨ps,H2,I2,rel,e,jp,ep,lk,q2⟩:=h_;subst ep;obtain⟨rs,c,rk⟩:=Ag (P:=X.prog) (w:=X.w) rel;obtain⟨z,hd,vs0,r0,dd⟩:=Uy I2.cI e;cases r0;refine⟨rs,c,dd,λh' Pj hs=>⟨.ref s.heap.objs.size,_,?_,rfl,q2⟩⟩;have hz:(o8 [] jp).length<=sizeLine:=by have h1:=rm jp [];rw[List.length_nil]at h1;rw[jM];lia
 have he:∃q,h'.get? s.heap.objs.size=some q:=let⟨q,_,_,hq,_⟩:=Pj;⟨q,hq⟩;exact zC I2 (by rw[e];exact True.intro) hs he (Kc hz hd (rk.merge .nil) Pj)
structure M2(X:Cx)(o:Expr)(m:Str)(apos:Pos)(e f:Expr)(kT:Pos):Prop where
 à:attributeBase o m X.env (eval o X.env)=eval o X.env
 wM:((backTo kT (starEach [e,f] X.env)).all (λx=>!x.1)&&(backToKw kT (keywordEach [] X.env)).all (λx=>x.1.isSome)
  && decide (([e,f]:List Expr).length+([]:List Keyword).length+(if([]:List Keyword).isEmpty then 0 else 1)<30))=true
 line:(apos.endLine==kT.line)=true
 trees:backTo kT (starEach [e,f] X.env)=[(false,eval e X.env),(false,eval f X.env)]
section
variable{d:V}{r:JZ}
end
section
variable{o f:Expr}{td ty tx:TE}
end
section
variable{jp:List (ä×V)}
end
end L2
namespace Att
open PySem PySem.W PySem.Calls PyProof.Rows
section
variable{prog:Ja}{w:Jb}{A:Jd}{E:JZ->JX->Prop}{s:JX}{K:Frag}
end
end Att
namespace L2
open PySem PySem.Spec PyProof.Rows
section
variable{P:Ja}{w:Jb}{K:Ni}{mg:Str->Option JZ}{à:Heap}
end
variable{X:Cx}{w:Jb}{k i n ep N j slot:Nat}{u f0:JZ}{jp:List (ä×V)}{vs aa us:List JZ}{bv:List (JY×Obj)}{Z:St}{H H':Hp}{s:JX}{tt:TT}{te tv td ty tl:TE}{D a it l C B I z i1 i2 S:JY}{Q E Q₁ E':JZ->JX->Prop}{o:Obj}{e value tg:Expr}{pos pos':Pos}{ta:TA}{t tz:SetTable}{es ez:Array (Int×JZ)}{prog:Ja}{A:Jd}{b fb:Bool}{x y:List (Option Int)}{Xg:Nat->JY}{WU:Nat->List (Option Int)}{h h' h0 à:Heap}{all:List (JZ×Int×Nat)}{items ys:Array JZ}{xs:List V}{L:List RQ}{cs:List Nat}{os:OsState}{fd:Jc}{ps:List Str}{sp:Sp}{p:Array Nat}{v:V}{mA mg:Str->Option JZ}{st:Stmt}{ks:List ä}{R:List JZ->JX->Prop}{fp wr:List JY}{G:Array GenState->Array GenState->Prop}{tb:TS}{ds:List PyData}{OK:Heap->Prop}{ns:List Int}{src:Source}{item:Nat->Keyed}{pre:Array Keyed}{pd:Array (Nat×Nat×Nat)}
section
variable{κ:Type}[DecidableEq κ]
def MS:∀{l:List κ}{k:κ},l.Nodup->¬k∈l->(l++[k]).Nodup
 |[],k,_,_=>by simp
 |a::r,k,h,hk=>by
  obtain⟨h1,h2⟩:=ic.mp h;show(a::(r++[k])).Nodup;refine ic.mpr ⟨λm=>?_,MS h2 λm=>hk (au.mpr (Or.inr m))⟩;rcases cH.mp m with q|q
  .exact h1 q
  exact hk (au.mpr (Or.inl (bX.mp q).symm))
end
def dxO(P:Ja)(w:Jb)(d:JY)(vs:List (ä×JZ))(ep:Nat):HO:=.ext λh=>h.DictAt (aw P w) d vs ep
def Ke{P:Ja}{k:ä}(h:(aw P w).is k u=true):æ (kV k) u:=by
 rcases cV (k:=k) (v:=u) h with⟨i,t,rfl,rfl⟩|⟨x,t,rfl,rfl⟩
 .exact⟨t,rfl⟩
 exact⟨t,rfl⟩
def WS{vs:List (ä×JZ)}(r:KV jp vs){k:ä}(h:vs[i]?=some (k,u)):∃v,jp[i]?=some (k,v):=by
 induction r generalizing i with
 |nil=>simp at h
 |@cons p q ps qs hp t ih =>
  cases i with
  |zero=>simp at h;subst h;obtain⟨a,b⟩:=p;exact⟨b,by simp;exact hp.1⟩
  |succ i=>simp at h;obtain⟨v,e⟩:=ih h;exact⟨v,by simpa using e⟩
def â.freeze{d:JY}(I:â X bv Z H s)(hd:H d=some (.dK jp)):
  ∃vs ep,KV jp vs/\jp.length<=sizeLine/\(d==sysModules)=false/\s.heap.DictAt (aw X.prog X.w) d vs ep/\â X bv Z (ü H d (dxO X.prog X.w d vs ep)) s:=by
 obtain⟨z,hs,vs,rel,o,es,ep,ho,r⟩:=(show cY X.prog X.w H s.heap d (.dK jp)from I.cI d _ hd);have hm:s.heap.DictAt (aw X.prog X.w) d vs ep:=⟨o,es,ho,r⟩;refine⟨vs,ep,rel,z,hs,hm,?_⟩;exact I.write (x:=d) (e:=d) (h':=s.heap) (t':=s.toks) (by rw[hd];exact True.intro) (.inl rfl) (λ_ _ _ q=>q) ⟨o,ho⟩ ⟨hm,⟨o,ho⟩,λh1 h2 x k=>x.at' k⟩
section
variable{g:TG}{Q:VK}
end
section
variable{g:TG}{Q:VK}
end
section
variable{o:Expr}{f:Str}{ta:TE}
def nC(K:Ni)(he:PE X e ta)(hb:attributeBase e f X.env (eval e X.env)=eval e X.env)(hK:X.K=K:=by rfl):PE X (.Attribute e f pos) (YQ K ta f):=by subst hK;exact Vv he hb
def Eg(K:Ni)(ha:PE X o ta)(hv:PE X value tv)(hs:swapsWith value (some (.Attribute o f pos')) pos.line X.env=pure false)(hK:X.K=K:=by rfl):PS X (.Assign [.Attribute o f pos'] value pos) (YR K ta tv f):=by subst hK;exact Vw ha hv hs
end
section
variable{t:TA}{es es1:List Expr}
end
section
variable{K:Ni}{g:TG}
end
def Yz(K:Ni):R2:=λx y H Q=>∃a b xs ys,x=.ref a/\y=.ref b/\bO K H a xs/\bO K H b ys /\
 (∀(j:Nat)(u v:V),xs[j]?=some u->ys[j]?=some v->Gp K H 8 u v)/\Q (.bl (!decide (xs.length=ys.length))) H
def Sf(K:Ni)(hu:X.A.units+16<cLine)(hK:X.K=K:=by rfl):kY X (compareOp .NotEq) (Yz K):=by
 subst hK;intro bv s Z H x y v u Q I rx ry h;obtain⟨a,b,xs,ys,rfl,rfl,ha,hb,he,q⟩:=h;cases rx;cases ry;obtain⟨aa,r1,p1,_⟩:=I.tuple ha;obtain⟨gu,r2,p2,_⟩:=I.tuple hb;have l1:=r1.length;have l2:=r2.length;refine aAo (SeqAt.RcNeAt.tuples (e:=λ_=>true) (show s.heap.IsTuple a aa.toArray from p1) (show s.heap.IsTuple b gu.toArray from p2) (by lia) λj h1 h2=>?_) ?_
 .obtain⟨x,hx,rx⟩:=i8 r1 j h1;obtain⟨y,hy,ry⟩:=i8 r2 j h2;exact SW I (he j x y hx hy) (A:=X.A.in1) (by show X.A.units+1+8<cLine;lia) rx ry
 rw[all_true,Bool.true_and];have e:(aa.toArray.size==gu.toArray.size)=decide (xs.length=ys.length):=by rw[l1,l2,bo,bo,jq];simp
 rw[e];exact⟨.bl _,H,I,rfl,q⟩
def ð:Option Int->V
 |none=>.cX
 |some n=>.int n
def Sg:∀{x y:Option Int},ð x=ð y->x=y
 |none,none,_=>rfl
 |none,some _,h=>by cases h
 |some _,none,h=>by cases h
 |some a,some b,h=>by cases h;rfl
def Ah:∀{x y:List (Option Int)},x.map ð=y.map ð->x=y
 |[],[],_=>rfl
 |[],_::_,h=>by cases h
 |_::_,[],h=>by cases h
 |a::x,b::y,h=>by rw[bz,bz]at h;rw[Sg (i5 h).1,Ah (i5 h).2]
def vH(e:Option Int):jy (ð e)=true:=by cases e<;>rfl
def MT(x y:Option Int):Bv (ð x) (ð y)=decide (x=y):=by
 cases x<;>cases y
 .rfl
 .rfl
 .rfl
 rename_i a b;show(a==b)=_;by_cases h:a=b<;>simp[h]
def Gx:∀(x y:List (Option Int)),((List.range (min x.length y.length)).all (λj=>decide ((x[j]?).getD none=(y[j]?).getD none))&&(x.length==y.length))=decide (x=y)
 |x,y=>by
  by_cases h:x=y
  .subst h;simp
  rw[cL h];by_cases hl:x.length=y.length
  .rw[Bool.and_eq_false_iff];left;rw[List.all_eq_false];apply kU;intro hn;apply h;apply mW;intro j;by_cases hj:j<x.length
   .have Ol:j<y.length:=(by lia);have:=kU λhz=>hn ⟨j,jL.mpr (by lia),hz⟩;have e:=tM this;simp only[cT hj,cT Ol,Option.getD_some]at e ⊢;rw[e]
   rw[jG (by lia),jG (by lia)]
  simp[hl]
def WT(I:â X bv Z H s){b:JY}(ha:bO X.K H a (x.map ð))(hb:bO X.K H b (y.map ð))(hu:A.units<cLine):SeqAt.EqAt A s (.ref a) (.ref b) (decide (x=y)):=by
 by_cases JQ:a=b
 .subst JQ;rw[bw (Ah (I.qf ha hb))];exact tV _
 obtain⟨aa,r1,p1,_⟩:=I.tuple ha;obtain⟨gu,r2,p2,_⟩:=I.tuple hb;have l1:=r1.length;have l2:=r2.length;rw[aJ]at l1 l2;refine tO JQ ?_;have q:=wV (A:=A) (s:=s) (e:=λj=>decide ((x[j]?).getD none=(y[j]?).getD none)) (show s.heap.IsTuple a aa.toArray from p1) (show s.heap.IsTuple b gu.toArray from p2) hu λj h1 h2=>?_
 .rw[bo,bo,<-l1,<-l2,Gx]at q;exact q
 obtain⟨u,hx,rx⟩:=i8 r1 j h1;obtain⟨v,hy,ry⟩:=i8 r2 j h2;rw[bh]at hx hy;cases ex:x[j]? with
 |none=>rw[ex]at hx;cases hx
 |some eu =>
  cases ey:y[j]? with
  |none=>rw[ey]at hy;cases hy
  |some ev =>
   rw[ex]at hx;rw[ey]at hy;obtain rfl:ð eu=u:=bR hx;obtain rfl:ð ev=v:=bR hy;have:=AS (A:=A.in1) (s:=s) rx ry (vH eu) (vH ev);rw[MT]at this;exact this
def aBY(K:Ni)(neg:Bool):R2:=λx y H Q=>∃(a l:JY)(es:List (Option Int))(n:Nat)(Xg:Nat->JY)(WU:Nat->List (Option Int)),x=.ref a/\y=.ref l/\bO K H a (es.map ð)/\aX K H l (m8 n Xg)/\(∀j,j<n->bO K H (Xg j) ((WU j).map ð)) /\
 Q (.bl (if neg then !((List.range n).any λj=>decide (WU j=es))else(List.range n).any λj=>decide (WU j=es))) H
open Classical in
noncomputable def MU(K:Ni)(H:Hp)(es:List (Option Int)):JZ->Bool
 |.ref c=>decide (bO K H c (es.map ð))
 |_=>false
def Ai(I:â X bv Z H s){c:JY}{es:List (Option Int)}(h:bO X.K H c (x.map ð)):MU X.K H es (.ref c)=decide (x=es):=by
 unfold MU;by_cases e:x=es
 .subst e;simp[h]
 rw[cL e];exact @cL _ (Classical.propDecidable _) λz=>e (Ah (I.qf h z))
def Gy:∀{n:Nat}{f:Nat->JY}{us:List JZ},aq (m8 n f) us->us=(List.range n).map λj=>Value.ref (f j):=by
 intro n f us h;have hl:=h.length;rw[aU]at hl;apply mW;intro j;by_cases hj:j<n
 .have ht:(m8 n f)[j]?=some (.ref (f j)):=eJ hj;obtain⟨u,hu,ru⟩:=h.get ht;cases ru;rw[hu];simp[hj]
 rw[jG (by lia),jG (by simp;lia)]
def Pn(I:â X bv Z H s){es:List (Option Int)}(r:aq (m8 n Xg) aa)(h:∀j,j<n->bO X.K H (Xg j) ((WU j).map ð)):
  aa.toArray.any (MU X.K H es)=(List.range n).any λj=>decide (WU j=es):=by
 rw[Gy r];rw[jq];simp only[List.any_toArray,rY,ao,jL];constructor
 .rintro⟨v,⟨j,hj,rfl⟩,hv⟩;rw[Ai I (h j hj)]at hv;exact⟨j,hj,hv⟩
 rintro⟨j,hj,hv⟩;exact⟨_,⟨j,hj,rfl⟩,by rw[Ai I (h j hj)];exact hv⟩
def WV(K:Ni)(hu:X.A.units+16<cLine)(hK:X.K=K:=by rfl):kY X (compareOp .In) (aBY K false):=by
 subst hK;intro bv s Z H x y v u Q I rx ry h;obtain⟨a,l,es,n,Xg,WU,rfl,rfl,ha,hl,hh,q⟩:=h;cases rx;cases ry;obtain⟨aa,r,pl,hz⟩:=I.list hl;refine SeqAt.in_listAt (MU X.K H es) pl.isList (λw hw=>?_) ⟨.bl _,H,I,rfl,?_⟩
 .have hw':w∈aa:=by simpa using hw
  rw[Gy r,ao]at hw';obtain⟨j,hj,rfl⟩:=hw';rw[jL]at hj;rw[Ai I (hh j hj)];exact WT I (hh j hj) ha (by show X.A.units+1<cLine;lia)
 rw[Pn I r hh];exact q
def j4(h:Heap)(x:List (Option Int))(a:JY):Prop:=∃aa:List JZ,aq (x.map ð) aa/\h.IsTuple a aa.toArray
def vI:Int:=0xFCA86420
def zD:Option Int->Int
 |some k=>hashInt k
 |none=>vI
def zE(x:List (Option Int)):Int:=reduceHash (Builtin.Tuple.tupleHashOf (x.map zD))
def zF{x y:Array JZ}(hx:h.IsTuple a x)(hy:h.IsTuple a y):x=y:=by obtain⟨o,ho,_,n,hd⟩:=hx;obtain⟨o',GJ,_,n',Bs⟩:=hy;rw[ho]at GJ;obtain rfl:=bR GJ;rw[hd]at Bs;injection Bs with h1 _
def Gz:∀{x y:List (Option Int)}{vs:List JZ},aq (x.map ð) vs->aq (y.map ð) vs->x=y
 |[],[],_,_,_=>rfl
 |[],_::_,_,.nil,h=>by cases h
 |_::_,[],_,h,.nil=>by cases h
 |a::x,b::y,_,.cons r t,.cons r' t'=>by
  rw[Gz t t']
  congr 1
  cases a with
  |none =>
   cases b with
   |none=>rfl
   |some j=>cases(show _=Value.none from r);obtain⟨_,e⟩:=(show ∃t,Value.none=Value.int j t from r');cases e
  |some i =>
   obtain⟨u,rfl⟩:=(show ∃t,_=Value.int i t from r);cases b with
   |none=>have e:=(show Value.int i u=Value.none from r');cases e
   |some j=>obtain⟨_,e⟩:=(show ∃t,Value.int i u=Value.int j t from r');cases e;rfl
def j4.inj(hx:j4 h x a)(hy:j4 h y a):x=y:=by
 obtain⟨aa,r,ht⟩:=hx;obtain⟨its',r',ht'⟩:=hy;have e:=zF ht ht';have e':aa=its':=by simpa using az Array.toList e
 subst e';exact Gz r r'
def Aj{d:JY}{x:Array JZ}{es ep}(hx:h.IsTuple a x)(ho:h.get? d=some o)(hd:o.data=.dict es ep)(hs:Heap.SameBut d h h'):h'.IsTuple a x:=by
 obtain⟨o',GJ,hc,n,Bs⟩:=hx;have AX:a≠d:=by rintro rfl;rw[ho]at GJ;obtain rfl:=bR GJ;rw[hd]at Bs;exact nomatch Bs
 exact⟨o',(hs.2 a AX).trans GJ,hc,n,Bs⟩
def G4{Q:Int->JX->Prop}(h:Q vI {s with toks:=s.toks+1}):wpAny (model prog w) A (pyHash .none) Q E s:=by
 have hT:=typeIs_none s;unfold pyHash;unfold pyHashByItsType;have hv:[Value.none].any Value.onHeap=false:=rfl;refine aG ?_;rw[cRoomFor,aK (by rw[hv];exact cG)];refine aS ?_;refine aG (mZ hT Di.lookup ?_);refine(show wpAny _ _ (if(some (Value.builtin "NoneType.__hash__")==some Value.none)=true then _ else _) Q E s from ?_);rw[aK (by rw[beq_builtin_none];exact cG)];refine aG (mZ hT Di.lookup ?_);refine(show wpAny _ _ (callSpecialIfBoundUnlessNone? Value.none "__hash__" _ >>= _) Q E s from ?_);refine aG (Ov hT Di (jo Di hT F.entry_NoneType_hash ?_ (F.args_NoneType_hash_1 _)));refine(show wpAny _ _ (do ret (<- mkInt 0xFCA86420)) _ _ s from wpAny_ret_mkInt ?_)
 exact aS h
def vJ{Q:Int->JX->Prop}(hu:A.units<cLine)(ht:s.heap.IsTuple a (all.map (·.1)).toArray)(hi:∀x∈all,∀(tk:Nat)(Q:Int->JX->Prop),Q x.2.1 {s with toks:=tk+x.2.2}->wpAny (model prog w) A.in1 (pyHash x.1) Q E {s with toks:=tk})(h:Q (reduceHash (Builtin.Tuple.tupleHashOf (all.map (·.2.1)))) {s with toks:=s.toks+((all.map (·.2.2)).sum+1)}):wpAny (model prog w) A (pyHash (.ref a)) Q E s:=by
 have hT:s.TypeIs (.ref a) "tuple":=let⟨o,ho,hc,_⟩:=ht;⟨o,ho,hc⟩;obtain⟨o,ho,_,n,hd⟩:=ht;unfold pyHash;unfold pyHashByItsType;refine aG (wpAny_cRoomFor_or (.inr hu) ?_);refine aG (mZ hT D1.lookup ?_);refine(show wpAny _ _ (if(some (Value.builtin "tuple.__hash__")==some Value.none)=true then _ else _) Q E s from ?_);rw[aK (by rw[beq_builtin_none];exact cG)];refine aG (mZ hT D1.lookup ?_);refine(show wpAny _ _ (callSpecialIfBoundUnlessNone? (.ref a) "__hash__" _ >>= _) Q E s from ?_);refine aG (Ov hT D1 (jo D1 hT F.entry_tuple_hash ?_ (F.args_tuple_hash_1 _)));refine(show wpAny _ _ (Builtin.Tuple.tupleItemsOf (.ref a) >>= _) _ _ s from aG (wpAny_tupleItemsOf ho hd (aG ?_)));rw[<-Array.forIn_toList];refine wpAny_forIn_list _
  (λû (b:Array Int) s'=>∃done left,all=done++left/\û=left.map (·.1)/\b.toList=done.map (·.2.1)/\s'={s with toks:=s.toks+(done.map (·.2.2)).sum})
  _ ?_ ?_ _ _ ⟨[],all,rfl,by simp,rfl,rfl⟩
 .rintro x û b s' ⟨done,left,rfl,hl,hb,rfl⟩
  match left,hl with
  |y::U0,hl =>
   rw[bz]at hl;obtain⟨rfl,rfl⟩:=i5 hl;refine aG (hi y (by simp) _ _ ?_)
   first
    |exact aS ⟨done++[y],U0,by simp,rfl,by simp[hb],by simp[zw]⟩
    |exact aG (aS (aS ⟨done++[y],U0,by simp,rfl,by simp[hb],by simp[zw]⟩))
 rintro b s' ⟨done,left,rfl,hl,hb,rfl⟩;have:left=[]:=De.mp hl.symm;subst this;rw[tT]at h;refine(show wpAny _ _ (retInt (Builtin.Tuple.tupleHashOf b.toList)) _ _ _ from ?_);rw[hb];refine wpAny_ret_mkInt ?_;refine(show wpAny _ _ (if(decide (-(2:Int) ^ 63<=Builtin.Tuple.tupleHashOf (done.map (·.2.1)))&&decide (Builtin.Tuple.tupleHashOf (done.map (·.2.1))<2 ^ 63))=true then _ else _) Q E _ from ?_);unfold reduceHash at h;by_cases hr:(decide (-(2:Int) ^ 63<=Builtin.Tuple.tupleHashOf (done.map (·.2.1)))&&decide (Builtin.Tuple.tupleHashOf (done.map (·.2.1))<2 ^ 63))=true
 .rw[aL hr];rw[aL hr]at h;exact aS (by simpa[zw]using h)
 rw[aK hr];rw[aK hr]at h;exact aG (iD (aS (by simpa[zw]using h)))
def Ak{Q:Int->JX->Prop}(hu:A.units<cLine)(hx:j4 s.heap x a)(h:Q (zE x) {s with toks:=s.toks+(x.length+1)}):wpAny (model prog w) A (pyHash (.ref a)) Q E s:=by
 obtain⟨aa,r,ht⟩:=hx;have hl:=r.length;rw[aJ]at hl;have sums:∀{x:List (Option Int)}{aa:List JZ},aq (x.map ð) aa->∃all:List (JZ×Int×Nat),all.map (·.1)=aa/\all.map (·.2.1)=x.map zD/\(all.map (·.2.2)).sum=x.length/\∀y∈all,y.2.2=1/\((y.1=.none/\y.2.1=vI)\/∃i t,y.1=.int i t/\y.2.1=hashInt i):=by
  intro x
  induction x with
  |nil=>intro aa r;cases r;exact⟨[],rfl,rfl,rfl,λy hy=>by cases hy⟩
  |cons e x ih =>
   intro aa r;cases r with
   |cons r t =>
    obtain⟨all,a1,a2,a3,a4⟩:=ih t;cases e with
    |none =>
     cases(show _=Value.none from r);refine⟨(.none,vI,1)::all,by simp[a1],by simp[a2,zD],by simp[a3];lia,λy hy=>?_⟩;rcases au.mp hy with rfl|hy
     .exact⟨rfl,.inl ⟨rfl,rfl⟩⟩
     exact a4 y hy
    |some i =>
     obtain⟨u,rfl⟩:=(show ∃t,_=Value.int i t from r);refine⟨(.int i u,hashInt i,1)::all,by simp[a1],by simp[a2,zD],by simp[a3];lia,λy hy=>?_⟩;rcases au.mp hy with rfl|hy
     .exact⟨rfl,.inr ⟨i,u,rfl,rfl⟩⟩
     exact a4 y hy
 obtain⟨all,a1,a2,a3,a4⟩:=sums r;refine vJ (all:=all) hu (by rw[a1];exact ht) (λy hy tk Q' hq=>?_) (by rw[a2,a3];exact h);obtain⟨e1,e2⟩:=a4 y hy;rw[e1]at hq;rcases e2 with⟨e3,e4⟩|⟨i,t,e3,e4⟩
 .rw[e3];rw[e4]at hq;exact G4 hq
 rw[e3];rw[e4]at hq;exact D7 hq
def rowAt{b:JY}(hu:A.units<cLine)(hx:j4 s.heap x a)(hy:j4 s.heap y b):SeqAt.EqAt A s (.ref a) (.ref b) (decide (x=y)):=by
 by_cases JQ:a=b
 .subst JQ;rw[bw (hx.inj hy)];exact tV _
 obtain⟨aa,r1,p1⟩:=hx;obtain⟨gu,r2,p2⟩:=hy;have l1:=r1.length;have l2:=r2.length;rw[aJ]at l1 l2;refine tO JQ ?_;have q:=wV (A:=A) (s:=s) (e:=λj=>decide ((x[j]?).getD none=(y[j]?).getD none)) p1 p2 hu λj h1 h2=>?_
 .rw[bo,bo,<-l1,<-l2,Gx]at q;exact q
 obtain⟨u,hx,rx⟩:=i8 r1 j h1;obtain⟨v,hy,ry⟩:=i8 r2 j h2;rw[bh]at hx hy;cases ex:x[j]? with
 |none=>rw[ex]at hx;cases hx
 |some eu =>
  cases ey:y[j]? with
  |none=>rw[ey]at hy;cases hy
  |some ev =>
   rw[ex]at hx;rw[ey]at hy;obtain rfl:ð eu=u:=bR hx;obtain rfl:ð ev=v:=bR hy;have:=AS (A:=A.in1) (s:=s) rx ry (vH eu) (vH ev);rw[MT]at this;exact this
def yC(n:Nat){Q:Bool->JX->Prop}(ht:s.heap.IsTuple a items)(hi:∀v∈items.toList,∀Q:Bool->JX->Prop,Q true s->wpAny (model prog w) A (eqIsQuiet n v) Q E s)(h:Q true s):wpAny (model prog w) A (eqIsQuiet (n+1) (.ref a)) Q E s:=by
 have hT:s.TypeIs (.ref a) "tuple":=let⟨o,ho,hc,_⟩:=ht;⟨o,ho,hc⟩;obtain⟨o,ho,_,m,hd⟩:=ht;unfold eqIsQuiet;refine aG (mZ hT F.slot_tuple_eq.lookup ?_);refine(show wpAny _ _ (isInstance (.ref a) (.type "tuple") >>= _) _ _ s from aG (wc hT isSubtype_tuple_tuple ?_));simp only[Bool.not_true,ur,cm];refine aG (l7 ho hd (aG ?_));refine(show wpAny _ _ (forIn items _ _) _ _ s from ?_);rw[<-Array.forIn_toList];refine wpAny_forIn_list _ (λû r s'=>r.1=none/\s'=s/\∀v∈û,v∈items.toList) _ ?_ ?_ _ _ ⟨rfl,rfl,λv hv=>hv⟩
 .rintro v û r s' ⟨hr,rfl,EZ⟩;refine aG (hi v (EZ v bp) _ ?_);simp only[Bool.not_true,ur,cm];exact aS ⟨rfl,rfl,λu Yu=>EZ u (bU _ Yu)⟩
 rintro⟨r1,r2⟩ s' ⟨hr,rfl,_⟩;simp only at hr;subst hr;exact aS h
def C2(n:Nat){Q:Bool->JX->Prop}(hx:j4 s.heap x a)(h:Q true s):wpAny (model prog w) A (eqIsQuiet (n+1) (.ref a)) Q E s:=by
 obtain⟨aa,r,ht⟩:=hx;refine yC n ht (λv hv Q' hq=>?_) h;have hb:carriedByValue v=true:=by
  have rf:v∈aa:=by simpa using hv
  clear hv;have all:∀{x:List (Option Int)}{aa:List JZ},aq (x.map ð) aa->∀v∈aa,carriedByValue v=true:=by
   intro x
   induction x with
   |nil=>intro aa r v hv;cases r;cases hv
   |cons e x ih =>
    intro aa r v hv;cases r with
    |cons r t =>
     rcases au.mp hv with rfl|hv
     .cases e with
      |none=>cases(show v=Value.none from r);rfl
      |some i=>obtain⟨u,rfl⟩:=(show ∃t,v=Value.int i t from r);rfl
     exact ih t v hv
  exact all r v rf
 rw[eqIsQuiet_byValue _ hb];exact aS hq
section
variable{xs:SX}
def U1(I:â X bv Z H s){b:JY}(h:bO X.K H b (x.map ð)):j4 s.heap x b:=by obtain⟨aa,r,ht,_⟩:=I.tuple h;exact⟨aa,r,ht⟩
end
section
variable{o i:Expr}
end
def rJ(d:JY)(es:Array DictEntry)(ep:Nat)(h:Heap):Prop:=∃o,h.get? d=some o/\o.ExactDict/\o.data=.dict es ep
def rJ.typeIs{d:JY}{es:Array DictEntry}(x:rJ d es ep s.heap):s.TypeIs (.ref d) "dict":=let⟨o,ho,hc,_⟩:=x;⟨o,ho,hc.1⟩
def rJ.at_{d:JY}{es:Array DictEntry}(x:rJ d es ep h)(e:∀o,h.get? d=some o->h'.get? d=some o):rJ d es ep h':=let⟨o,ho,r⟩:=x;⟨o,e _ ho,r⟩
section
variable{d:JY}{es:Array DictEntry}
def G5(hd:(d==sysModules)=false)(x:rJ d es ep s.heap)(hQ:Q (.ref s.heap.objs.size) {s with heap:=s.heap.push {cls:=.type "dict_keyiterator",data:=.fields #[.ref d,.int 0 0,.int es.size 0,.int ep 0]}}):
  wpAny (model prog w) A (pyIter (.ref d)) Q E s:=by
 have hT:=x.typeIs;obtain⟨o,ho,hc,Sh⟩:=x;refine Dx hT F.slot_dict_iter (jo F.slot_dict_iter hT F.entry_dict_iter ?_ (F.args_dict_iter_1 _));unfold Builtin.«dict.__iter__»;refine aG ?_;unfold Builtin.Dict.dictSlotNone;refine aG (wpAny_notOrdered_dict hT ?_);refine(show wpAny _ _ (pure (Value.ref d)) _ _ s from aS ?_);refine(show wpAny _ _ (Builtin.Dict.showsAll d >>= _) _ _ s from ?_);unfold Builtin.Dict.showsAll;rw[aK (by rw[hd];exact cG)];refine aG (aS (aG (wpAny_dictEntries ho Sh (aG (wpAny_dictEpoch ho Sh ?_)))));refine aG (jI (aS ⟨_,rfl,"dict_keyiterator",_,⟨_,bK _ rfl,rfl⟩,zW.lookup,?_⟩))
 simpa[rawInt]using hQ
def G6{Q:Option JZ->JX->Prop}(hit:s.heap.IsKeyIter it d i es.size ep)(x:rJ d es ep s.heap)(jz:i<es.size)(hQ:∀h',h'.IsKeyIter it d (i+1) es.size ep->Heap.SameBut it s.heap h'->Q (some es[i].key) {s with heap:=h'}):wpAny (model prog w) A (pyNext (.ref it)) Q E s:=by
 obtain⟨o,ho,hc,hd⟩:=id hit;obtain⟨od,Y0,Cn,Y1⟩:=x;unfold pyNext;refine aG (AE (xu (name:=Str.ofString "__next__") hit.typeIs zW
  (jo zW hit.typeIs F.entry_dict_keyiterator_next ?_ (F.args_dict_keyiterator_next_1 _))))
 refine aG (aS ?_);refine aG ?_;refine aG ?_
 first|refine aG (DQ hit.typeIs (aS ?_))|refine aG (DW hit.typeIs (aS ?_))
 refine aG (wpAny_fieldsOf ho hd ?_);have WW:Builtin.Dict_items.ownsTuple "dict_keyiterator"=false:=by decide
 simp only[WW,ur,cm];refine(show wpAny _ _ (if(Value.ref d==Value.none)=true then _ else _) _ _ s from ?_);rw[aK (show ¬((Value.ref d==Value.none)=true)from cG)];refine aG (aS (aG (wpAny_dictEntries Y0 Y1 ?_)));rw[aK (by simp)];refine aG (aS (aG (wpAny_dictEpoch Y0 Y1 ?_)));rw[aK (by simp)];refine aS ?_;simp only[show ¬((i:Int)<0)from by lia,cm,dh,Array.getElem?_eq_getElem jz];refine aG ?_
 first|refine aG (DQ hit.typeIs (aS ?_))|refine aG (DW hit.typeIs (aS ?_))
 refine aG (wpAny_isOneOf_keyiter hit.typeIs ?_);refine(show wpAny _ _ (setField (.ref it) 1 (rawInt ((i:Int)+1)) >>= _) _ _ s from ?_);refine aG (EB ho hd (by simp) ?_);have Si:(s.heap.update it (Obj.mapFields (·.setIfInBounds 1 (rawInt ((i:Int)+1))))).IsKeyIter it d (i+1) es.size ep :=
  ⟨_,xv _ ho (Obj.isFreed_of_fields (Dp hd _)),(Obj.cls_mapFields ..).trans hc,by rw[Dp hd];simp[rawInt]⟩
 refine aG (gp ?_);refine aG (wpAny_isOneOf_keyiter (s:={s with heap:=s.heap.update it (Obj.mapFields (·.setIfInBounds 1 (rawInt ((i:Int)+1))))}) Si.typeIs ?_);refine(show wpAny _ _ (pure es[i].key) _ _ _ from ?_);exact aS (aS ⟨_,rfl,aS (hQ _ Si (rV ..))⟩)
end
section
variable{d:JY}{es:Array DictEntry}
def MV{Q:Option JZ->JX->Prop}(hh:A.handled=none)(hit:s.heap.IsKeyIter it d i es.size ep)(x:rJ d es ep s.heap)(hge:es.size<=i)(hQ:∀h',Heap.ExtBut it s.heap h'->Q none {s with heap:=h'}):wpAny (model prog w) A (pyNext (.ref it)) Q E s:=by
 obtain⟨o,ho,hc,hd⟩:=id hit;obtain⟨od,Y0,Cn,Y1⟩:=x;unfold pyNext;refine aG (AE (xu (name:=Str.ofString "__next__") hit.typeIs zW
  (jo zW hit.typeIs F.entry_dict_keyiterator_next ?_ (F.args_dict_keyiterator_next_1 _))))
 refine aG (aS ?_);refine aG ?_;refine aG ?_
 first|refine aG (DQ hit.typeIs (aS ?_))|refine aG (DW hit.typeIs (aS ?_))
 refine aG (wpAny_fieldsOf ho hd ?_);have WW:Builtin.Dict_items.ownsTuple "dict_keyiterator"=false:=by decide
 simp only[WW,ur,cm];refine(show wpAny _ _ (if(Value.ref d==Value.none)=true then _ else _) _ _ s from ?_);rw[aK (show ¬((Value.ref d==Value.none)=true)from cG)];refine aG (aS (aG (wpAny_dictEntries Y0 Y1 ?_)));rw[aK (by simp)];refine aG (aS (aG (wpAny_dictEpoch Y0 Y1 ?_)));rw[aK (by simp)];refine aS ?_;simp only[show ¬((i:Int)<0)from by lia,cm,dh,Array.getElem?_eq_none hge];refine aG ?_
 first|refine aG (DQ hit.typeIs (aS ?_))|refine aG (DW hit.typeIs (aS ?_))
 refine(show wpAny _ _ (setField (.ref it) 0 .none >>= _) _ _ s from ?_);refine aG (EB ho hd (by simp) ?_);refine(show wpAny _ _ (newExc (.type "StopIteration") [] >>= _) _ _ _ from ?_);refine aG ?_;simp only[newExc,newTuple];refine aG (jI ?_ (by size_fits));refine aG (m:=firstArgMember _ _) (wpAny_of_eq (a:=Value.none) (by first|rfl|(simp only[firstArgMember];rfl)) ?_);refine jI ?_ (by size_fits);simp only[raiseNew];refine aG (wpAny_handled ?_);rw[show A.in1.handled=none from hh];refine aG (aS (wpAny_throw ?_));refine aG (wc (T:="StopIteration") (b:=true) ⟨_,bK _ rfl,rfl⟩ isSubtype_stop ?_);exact aS (hQ _ (((rV ..).extBut.push _).push _))
end
def G7:typeLookup (.type "list") "keys"=pure none:=by rw[zt,zc];kernel_rfl
def qi:plainId "dict.update.loop"=true:=by decide +kernel
def C3:entryFor table "dict.update.loop"=some Builtin.«dict.update.loop»:=entryFor_of_tree (by kernel_rfl)
def Nj{xs:Array JZ}{Q:Option JZ->JX->Prop}(hx:s.heap.get? a=some {cls:=.type "list",data:=.seq xs k})(hA:A.handled=none)(h:∀h' tk,(∀b o,s.heap.get? b=some o->h'.get? b=some o)->Q none {s with heap:=h',toks:=tk}):wpAny (model prog w) A (getAttr? (.ref a) "keys") Q E s:=by
 obtain⟨hp,g,d,tk,os⟩:=s;have hT:∀Xh,(⟨hp,g,d,Xh,os⟩:JX).TypeIs (.ref a) "list":=λ_=>⟨_,hx,rfl⟩;have f1:=sub_AttributeError;have f3:=Jp.lookup;have f4:=Jp.bind (.ref a);have f5:=am_list_getattr_none;unfold getAttr? getAttrBy? getAttrBy
 repeat (any_goals (first|assumption|exact hT _|((with_reducible show wpAny _ _ (call (Value.builtin "list.__getattribute__") _ _) _ _ _);refine mf Jp (hT _) am_entry_list_getattribute (F.args_list_getattribute_2 _ _) (meets_getattribute_miss_list a xs k _ "keys" _ G7 (by decide)) ⟨hx,hA,λh' Xh e WX=>?_⟩)|wp_step))
 obtain⟨t',u',he⟩:=WX.there;refine(show wpAny _ _ (getattributeRaised _ _ _ _ _ _ _) _ _ _ from ?_);unfold getattributeRaised;have hE:∀Xh,(⟨h',g,d,Xh,os⟩:JX).TypeIs (.ref e) "AttributeError":=λ_=>⟨_,he,rfl⟩
 repeat (any_goals (first|assumption|exact hE _|wp_step))
 exact h _ _ WX.keeps
section
variable{d:JY}
end
def aBZ(K:Ni):R2:=λx y H Q=>rNe x y H Q\/Yz K x y H Q
def WY(K:Ni)(hu:X.A.units+16<cLine)(hK:X.K=K:=by rfl):kY X (compareOp .NotEq) (aBZ K):=by
 intro bv s Z H x y v u Q I rx ry h;rcases h with h|h
 .exact rZ bv s Z H x y v u Q I rx ry h
 exact Sf K hu hK bv s Z H x y v u Q I rx ry h
section
variable{g:TG}
end
section
variable{E:XK}
end
abbrev ai(cs:List Nat):Str:=⟨cs.toArray⟩
def Its(cs:List Nat):It:=⟨λi _=>i<cs.length,λi H v H'=>H'=H/\∃c,cs[i]?=some c/\v=.str ⟨#[c]⟩,λi _=>cs.length<=i⟩
def Po{P:Ja}{K:Ni}(it:JY)(cs:List Nat)(t:Tok):î P w K tg (Its cs) [it] it (λi h=>h.IsStrIter it "str_ascii_iterator" (ai cs) t i)where
 mem:=by simp
 obj:=λi h st b hb=>by
  have e:b=it:=by simpa using hb
  subst e;obtain⟨o,e,c,d⟩:=st;exact⟨o,e,λv z=>by rw[d]at z;cases z⟩
 keep:=λi h h' st k=>let⟨o,e,r⟩:=st;⟨o,k it (by simp) o e,r⟩
 item:=by
  intro X hP hw hK hc i bv s Z H E I hf st hg;subst hP hw hK;obtain⟨f0,f1,f2,f3,f4,f5⟩:=hf it (by simp);have hi:i<cs.length:=hg;refine wpAny_pyNext_ascii_item st (c:=cs[i]) (by simp[ai,hi]) λh' tq sb=>?_;have I1:â X bv Z H {s with heap:=h',toks:=s.toks+1}:=I.turned (λb o hb e=>(sb.2 b hb).trans e) f0 f1 f3 f4 f5
  obtain⟨o,e,c,d⟩:=id tq;exact⟨_,rfl,AK (s:={s with heap:=h',toks:=s.toks+1}) e c d (by decide) ⟨.str ⟨#[cs[i]]⟩,H,I1,⟨_,rfl⟩,⟨rfl,cs[i],by simp[hi],rfl⟩,tq,λb hb=>(hf b hb).1⟩⟩
 done:=by intro X hP hw hK hc i bv s Z H E I hf st hg;subst hP hw hK;obtain⟨f0,f1,f2,f3,f4,f5⟩:=hf it (by simp);have hi:cs.length<=i:=hg;exact wpAny_pyNext_ascii_end (I.ok.hd hc) st (by simp[ai];lia) λh' eb=>⟨rfl,I.turned (t':=s.toks) (λb o hb e=>eb b o hb e) f0 f1 f3 f4 f5⟩
 self:=λ_ _ _ _ _ st h=>wpAny_pyIter_striter_ascii st h
def aCb(tl:TE):TI:=λZ H R=>tl Z H λx H1=>∃cs:List Nat,x=.str (ai cs)/\(∀c∈cs,c<128)/\R (Its cs) H1
def Pp{l:Expr}(hl:PE X l tl):PI X tg l (aCb tl):=by
 intro bv s Z H R I h;refine cC (hl bv s Z H _ I h) λv s1 h_=>?_;obtain⟨x,H1,I1,r1,q1⟩:=h_;obtain⟨cs,rfl,ha,q⟩:=q1;obtain⟨t,rfl⟩:=r1;refine wpAny_pyIter_ascii (by simp only[ai,List.all_toArray,og,tN];exact ha) ?_;refine⟨s1.heap.objs.size,[s1.heap.objs.size],_,_,H1,rfl,I1.kept (t':=s1.toks) λb o e=>bG _ e,Po _ cs t,⟨_,bK _ rfl,rfl,rfl⟩,λb hb=>?_,q⟩;have e:b=s1.heap.objs.size:=by simpa using hb
 subst e;exact I1.yb (ae _) (I1.cI.fresh (ae _))
def Sj:V2 X "str.find" (λx vs H Q=>∃y z,x=.str y/\vs=[.str z]/\Q (.int (Txt.find y z)) H):=by intro bv s Z H x vs v us Q I rx rv h;obtain⟨y,z,rfl,rfl,q⟩:=h;obtain⟨t,rfl⟩:=rx;obtain⟨u,rfl,ru⟩:=rv.one;obtain⟨t',rfl⟩:=ru;exact SC.find ⟨.int (Txt.find y z),H,I.tok _,⟨_,rfl⟩,q⟩
def Eh:∀{ys:List Str}{us:List JZ},aq (ys.map V.str) us->StrsAre us ys
 |[],_,.nil=>.nil
 |y::_,_,.cons r t=>by obtain⟨tk,rfl⟩:=r;exact .cons y tk (Eh t)
def Sk(K:Ni)(hK:X.K=K:=by rfl):V2 X "str.join" (λx vs H Q=>∃(y:Str)(p:JY)(ys:List Str),x=.str y/\vs=[.ref p]/\aX K H p (ys.map V.str)/\(ys.map (·.length)).sum+ys.length*y.length<=16777216/\Q (.str (Txt.join y ys)) H):=by subst hK;intro bv s Z H x vs v us Q I rx rv h;obtain⟨y,p,ys,rfl,rfl,hp,hz,q⟩:=h;obtain⟨t,rfl⟩:=rx;obtain⟨u,rfl,ru⟩:=rv.one;cases ru;obtain⟨aa,r1,p1,_⟩:=I.list hp;exact join_list p1.isList (by simpa using Eh r1) hz λt' k=>⟨.str (Txt.join y ys),H,I.tok _,⟨_,rfl⟩,q⟩
section
variable{K:Ni}{g:TG}{Q:VK}
def Pq(Pv:Nat->St->Hp->Prop)(h0:Pv 0 Z H)(hs:∀(i c:Nat)(Z:St)(H:Hp)(N:St->Hp->Prop),(∀Z H,Pv (i+1) Z H->N Z H)->cs[i]?=some c->Pv i Z H->g (.str ⟨#[c]⟩) Z H (Lb tt te D N))(hd:∀Z H,Pv cs.length Z H->Q (.ref D) H):oP (Its cs) g tt te D Z H Q:=by refine yA cs.length Pv h0 (λi Z H N hN lt p=>⟨lt,?_⟩) λZ H p=>⟨ae _,hd Z H p⟩;rintro x H' ⟨rfl,c,hc,rfl⟩;exact hs i c Z _ N hN hc p
end
def Kf:∀cs:List Nat,Txt.join Str.empty (cs.map λc=>(⟨#[c]⟩:Str))=ai cs:=by
 intro cs;show Builtin.Str.glued Str.empty _=_;rw[PySem.StrLaws.glued_eq_join]
 induction cs with
 |nil=>rfl
 |cons c r ih =>
  cases r with
  |nil=>rfl
  |cons d r =>
   show(⟨#[c]⟩:Str)++Str.empty++Str.join Str.empty ((d::r).map λc=>(⟨#[c]⟩:Str))=_;rw[ih];show(⟨#[c]++#[]++(d::r).toArray⟩:Str)=⟨(c::d::r).toArray⟩
   congr 1
   simp
def j5(a:List Nat):(ai a).length=a.length:=by simp[Str.length,ai]
section
variable{g:Array GenState}{d:Drawn}{t:Nat}{K:Ni}{f:JY}
end
section
variable{CX:KJ}{f:JY}{E:XK}{x:Str}{p:Pos}{es:List Expr}{t:TA}
end
section
variable{f:JY}
end
section
variable{g:Array GenState}{d:Drawn}{t:Nat}{K:Ni}{f dx:JY}{name:Str}{v:JZ}
end
section
variable{P:Ja}{K:Ni}
def vA.G8{x qual:Str}{f:JY}{N:List Str}(F:vA K x qual st f fd)(S:aM N ps (aH st))(len:∀vs H Q E,sp vs H Q E->vs.length=ps.length)(o7:∀(f:JY)(bM:JZ)(A:Jd)(á:List Env)(s:JX)(H:Hp)(vs:List V)(Q:VK)(E:XK),fY k (A.deeper (envOfC qual (aH st) s.heap.objs.size f bM))->sp vs H Q E ->
   ∃t,JP (Yn P w K mg à N qual st f bM A á s H E) (dG st) t/\t {nx:=λ_ H'=>Q .cX H',rt:=Q} (start N vs) H):cn P w K mg à (oV P w) (k+1) f fd ps sp:=by
 obtain⟨oc,od,kV,doc,pm,an,bM,ct,GN,rfl,lk,Cn⟩:=F.ex;exact MG lk Cn S len λA á s H vs Q E hr MH=>o7 f bM A á s H vs Q E hr MH
end
def mE(ks:List ä)(k:ä):Bool:=ks.any λx=>decide (x=k)
def mF{k:ä}:mE ks k=true↔k∈ks:=by unfold mE;rw[rY];exact⟨λ⟨x,h,e⟩=>by rw[<-tM e];exact h,λh=>⟨k,h,bw rfl⟩⟩
def Nk{k x:ä}:mE (x::ks) k=(mE ks k||decide (k=x)):=by show(decide (x=k)||mE ks k)=_;rw[Bool.or_comm];exact az _ (decide_eq_decide.mpr eq_comm)
def dd:List ä->List ä
 |[]=>[]
 |k::ks=>if mE ks k=true then dd ks else k::dd ks
def Ei{k:ä}:∀{ks:List ä},k∈dd ks↔k∈ks
 |[]=>by simp[dd]
 |x::ks=>by
  unfold dd;split
  .rename_i h;have h:=mF.mp h;rw[Ei (ks:=ks),au];exact⟨.inr,λz=>z.elim (λe=>by rw[e];exact h) id⟩
  rw[au,au,Ei (ks:=ks)]
def Ej:∀(ks:List ä),(dd ks).length<=ks.length
 |[]=>ae _
 |x::ks=>by
  have:=Ej ks;unfold dd;split
  .rw[cQ];lia
  rw[cQ,cQ];lia
def o9:∀(ks:List ä),(dd ks).length=ks.length↔ks.Nodup
 |[]=>by simp[dd]
 |x::ks=>by
  have h:=Ej ks;have ih:=o9 ks;rw[ic];unfold dd;split
  .rename_i hx;have hx:=mF.mp hx;rw[cQ];exact⟨λz=>by lia,λz=>absurd hx z.1⟩
  rename_i hx;have hx:¬x∈ks:=λz=>hx (mF.mpr z);rw[cQ,cQ];exact⟨λz=>⟨hx,ih.mp (by lia)⟩,λz=>by have:=ih.mpr z.2;lia⟩
def Pr:∀{k:ä}{v:JZ},æ (kV k) v->(aw prog w).is k v=true/\v.scannable=true
 |.inl i,_,⟨t,e⟩=>by subst e;exact⟨xw prog w i t,rfl⟩
 |.inr x,_,⟨t,e⟩=>by subst e;exact⟨xx prog w x t,rfl⟩
section
variable{R:Result->JX->Prop}{St:Nat->JX->Prop}
end
def oQ(b:Bool)(K:Ni)(H:Hp)(a:JY)(xs:List V):Prop:=if b=true then aX K H a xs else bO K H a xs
def oQ.or{K:Ni}(h:oQ b K H a xs):aX K H a xs\/bO K H a xs:=by
 cases b
 .exact .inr h
 exact .inl h
def Y2(b:Bool)(K:Ni)(a:JY)(xs:List V):It:=⟨λi H=>oQ b K H a xs/\i<xs.length,λi H x H'=>H'=H/\xs[i]?=some x,λi H=>oQ b K H a xs/\xs.length<=i⟩
def î.weak{P:Ja}{K:Ni}{J J':It}{tn:Nat->Heap->Prop}(T:î P w K tg J fp it tn)(hg:∀i H,J'.go i H->J.go i H)(hy:∀i H x H',J'.go i H->J.Rn i H x H'->J'.Rn i H x H')(hs:∀i H,J'.stop i H->J.stop i H):î P w K tg J' fp it tn where
 mem:=T.mem
 obj:=T.obj
 keep:=T.keep
 item:=λX hP hw hK hc i bv s Z H E I hf st g=>cC (T.item X hP hw hK hc i bv s Z H E I hf st (hg i H g)) λr s1 ⟨u,e,q⟩=>⟨u,e,cC q λ_ s2 ⟨x,H',I2,r2,y,û⟩=>⟨x,H',I2,r2,hy i H x H' g y,û⟩⟩
 done:=λX hP hw hK hc i bv s Z H E I hf st g=>T.done X hP hw hK hc i bv s Z H E I hf st (hs i H g)
 self:=T.self
def aCc(K:Ni)(tl:TE):TI:=λZ H R=>tl Z H λx H1=>∃(b:Bool)(a:JY)(xs:List V),x=.ref a/\oQ b K H1 a xs/\R (Y2 b K a xs) H1
def zG(K:Ni){l:Expr}(hl:PE X l tl)(hK:X.K=K:=by rfl):PI X tg l (aCc K tl):=by
 subst hK;intro bv s Z H R I h;refine cC (hl bv s Z H _ I h) λv s1 h_=>?_;obtain⟨x,H1,I1,r1,q1⟩:=h_;obtain⟨b,a,xs,e,hq,q⟩:=q1;subst e;cases r1;cases b with
 |true =>
  obtain⟨aa,rv,p,hz⟩:=I1.list (show aX X.K H1 a xs from hq);refine tQ p.isList ⟨s1.heap.objs.size,[s1.heap.objs.size],_,_,H1,rfl,I1.kept (t':=s1.toks) λb o e=>bG _ e,
   (Cp a _).weak (J':=Y2 true X.K a xs) (λi H g=>⟨xs,xs[i]'g.2,g.1,by simp[g.2]⟩) (λi H x H' g y=>⟨y.1,y.2 xs g.1⟩) (λi H g=>⟨xs,g.1,g.2⟩),⟨_,bK _ rfl,rfl,rfl⟩,λb hb=>?_,q⟩
  cases bX.mp hb;exact I1.yb (ae _) (I1.cI.fresh (ae _))
 |false =>
  obtain⟨aa,rv,p,hz⟩:=I1.tuple (show bO X.K H1 a xs from hq);refine Dm (show s1.heap.IsTuple a aa.toArray from p) ⟨s1.heap.objs.size,[s1.heap.objs.size],_,_,H1,rfl,I1.kept (t':=s1.toks) λb o e=>bG _ e,
   (AL a _).weak (J':=Y2 false X.K a xs) (λi H g=>⟨xs,xs[i]'g.2,g.1,by simp[g.2]⟩) (λi H x H' g y=>⟨y.1,y.2 xs g.1⟩) (λi H g=>⟨xs,g.1,g.2⟩),⟨_,bK _ rfl,rfl,rfl⟩,λb hb=>?_,q⟩
  cases bX.mp hb;exact I1.yb (ae _) (I1.cI.fresh (ae _))
def Ek{K:Ni}{g:TG}{D:ï}(Pv:Nat->St->Hp->Prop)(h0:Pv 0 Z H)(hl:∀i Z H,i<=xs.length->Pv i Z H->oQ b K H a xs)(hs:∀i x Z H,xs[i]?=some x->Pv i Z H->g x Z H (Bf tb D (Pv (i+1))))(hd:∀Z H,Pv xs.length Z H->D.nx Z H):EO (Y2 b K a xs) g tb D Z H:=by refine o3 xs.length Pv h0 (λi Z H lt p=>⟨⟨hl i Z H (gT lt) p,lt⟩,?_⟩) λZ H p=>⟨⟨hl _ Z H (ae _) p,ae _⟩,hd Z H p⟩;rintro x H' ⟨rfl,y⟩;exact hs i x Z _ y p
def Sl(lo st:Int)(n:Nat):It:=⟨λi _=>i<n,λi H x H'=>H'=H/\x=.int (lo+i*st),λi _=>n<=i⟩
def G9{P:Ja}{K:Ni}(it:JY)(lo st:Int)(n:Nat):î P w K tg (Sl lo st n) [it] it (λi h=>IsRangeIter h it (lo+(i:Nat)*st) ((n:Int)-(i:Nat)) st)where
 mem:=by simp
 obj:=λi h q b hb=>by cases bX.mp hb;exact⟨_,q,λv z=>by cases(show Data.fields _=Data.cell v from z)⟩
 keep:=λi h h' q k=>k it (by simp) _ q
 item:=by
  intro X hP hw hK hc i bv s Z H E I hf q hg;subst hP hw hK;obtain⟨f0,f1,f2,f3,f4,f5⟩:=hf it (by simp);refine(Walks.range (prog:=X.prog) (w:=X.w) (I.ok.hd hc) it lo st n).item i s _ _ hg q λv h' tk hv tq kk=>?_;obtain⟨t,rfl⟩:=hv;have I1:â X bv Z H {s with heap:=h',toks:=tk}:=I.turned (λb o hb e=>kk b o (by simpa using hb) e) f0 f1 f3 f4 f5
  exact⟨_,rfl,AK (s:={s with heap:=h',toks:=tk}) (n:="range_iterator") tq rfl rfl (by decide) ⟨.int (lo+i*st),H,I1,⟨t,rfl⟩,⟨rfl,rfl⟩,tq,λb hb=>(hf b hb).1⟩⟩
 done:=by intro X hP hw hK hc i bv s Z H E I hf q hg;subst hP hw hK;obtain⟨f0,f1,f2,f3,f4,f5⟩:=hf it (by simp);exact wpAny_pyNext_range_end (I.ok.hd hc) q (by have:n<=i:=hg;lia) λh' eb=>⟨rfl,I.turned (t':=s.toks) (λb o hb e=>eb b o hb e) f0 f1 f3 f4 f5⟩
 self:=λ_ _ _ _ _ st h=>wpAny_pyIter_rangeiter st h
def uF(K:Ni)(hK:X.K=K:=by rfl):kY X (compareOp .In) (Xd K false):=by subst hK;exact Cv
def lE(K:Ni)(hK:X.K=K:=by rfl):kY X (compareOp .NotIn) (Xd K true):=by subst hK;exact u7
def Y3(ta:TA):TI:=λZ H R=>ta Z H λvs H1=>∃i j k:Int,vs=[.int i,.int j,.int k]/\(-(2 ^ 40)<=i/\i<2 ^ 40/\-(2 ^ 40)<=j/\j<2 ^ 40/\0<k/\k<1000000)/\R (Sl i k (Builtin.Range.rangeSize i j k).toNat) H1
def HH{i j k:Int}(h:-(2 ^ 40)<=i/\i<2 ^ 40/\-(2 ^ 40)<=j/\j<2 ^ 40/\0<k/\k<1000000):Builtin.Range.small i j k=true:=by have h1:=rangeSize_toNat i j k;have h2:=rangeSize_toNat_le i j k;unfold Builtin.Range.small;generalize Builtin.Range.rangeSize i j k=z at *;rw[aL (by lia)];simp only[Builtin.Range.rangeFitsLong,tS,Bool.or_eq_true,tN,fU];lia
def C4{a b c:Expr}{p:Pos}(hg:Gl X "range")(hm:X.mg "range"=none)(ha:PA X [a,b,c] ta)(hs:starEach [a,b,c] X.env=(false,eval a X.env)::starEach [b,c] X.env:=by rfl)(By:(backTo pos (starEach [b,c] X.env)).any (·.1)=false:=by rfl):
  PI X tg (.Call (.Name "range" p) [a,b,c] [] pos) (Y3 ta):=by
 intro bv s Z H R I h;refine Call_ (mh I hg hm boot_range (xq (cC (ha pos bv s Z H _ I h) λus s1 h_=>?_) hs By));obtain⟨vs,H1,I1,r1,q1⟩:=h_;obtain⟨i,j,k,e,hb,q⟩:=q1;subst e;cases r1 with
 |cons r rr =>
  cases rr with
  |cons r' rr =>
   cases rr with
   |cons r'' rr =>
    cases rr;obtain⟨t,rfl⟩:=r;obtain⟨t',rfl⟩:=r';obtain⟨t'',rfl⟩:=r'';refine call_range_3 (by lia) ?_ (.inl (PyProof.noPylong_small (by lia)));refine wpAny_pyIter_range (IsRange.new ..) (HH hb) ?_;have I2:â X bv Z H1 {s1 with heap:=s1.heap.push {cls:=.type "range",data:=.fields #[.int i t,.int j t',.int k t'']}}:=I1.kept (t':=s1.toks) λb o e=>bG _ e
    refine⟨_,[_],_,_,H1,rfl,I2.kept (t':=s1.toks) λb o e=>bG _ e,G9 _ i k (Builtin.Range.rangeSize i j k).toNat,?_,λb hb=>?_,q⟩
    .have e1:i+((0:Nat):Int)*k=i:=(by simp);have e2:(((Builtin.Range.rangeSize i j k).toNat:Nat):Int)-((0:Nat):Int)=Builtin.Range.rangeSize i j k:=(by have:=rangeSize_toNat i j k;lia);show IsRangeIter _ _ (i+((0:Nat):Int)*k) ((((Builtin.Range.rangeSize i j k).toNat:Nat):Int)-((0:Nat):Int)) k;rw[e1,e2];exact bK _ rfl
    cases bX.mp hb;exact I2.yb (ae _) (I2.cI.fresh (ae _))
def Kg{lo st:Int}{g:TG}{D:ï}(Pv:Nat->St->Hp->Prop)(h0:Pv 0 Z H)(hs:∀i Z H,i<n->Pv i Z H->g (.int (lo+i*st)) Z H (Bf tb D (Pv (i+1))))(hd:∀Z H,Pv n Z H->D.nx Z H):EO (Sl lo st n) g tb D Z H:=by refine o3 n Pv h0 (λi Z H lt p=>⟨lt,?_⟩) λZ H p=>⟨ae _,hd Z H p⟩;rintro x H' ⟨rfl,rfl⟩;exact hs i Z _ lt p
def Pt(K:Ni)(hK:X.K=K:=by rfl):V2 X "str.join" (λx vs H Q=>∃(y:Str)(p:JY)(ys:List Str),x=.str y/\vs=[.ref p]/\bO K H p (ys.map V.str)/\(ys.map (·.length)).sum+ys.length*y.length<=16777216/\Q (.str (Txt.join y ys)) H):=by subst hK;intro bv s Z H x vs v us Q I rx rv h;obtain⟨y,p,ys,rfl,rfl,hp,hz,q⟩:=h;obtain⟨t,rfl⟩:=rx;obtain⟨u,rfl,ru⟩:=rv.one;cases ru;obtain⟨aa,r1,⟨o,ho,hc,n,hd⟩,_⟩:=I.tuple hp;exact join_tuple (items:=aa.toArray) ⟨o,ho,hc,n,hd⟩ (by simpa using Eh r1) hz λt' k=>⟨.str (Txt.join y ys),H,I.tok _,⟨_,rfl⟩,q⟩
def Pu(x y:Str):Txt.split x y≠[]:=by
 unfold Txt.split;split
 .simp
 split
 .simp
 rw[StrLaws.partsBetween_eq];intro e;cases h:Builtin.Str.occurrences x y 0 x.length (x.length+1)with
 |nil=>rw[h]at e;cases e
 |cons _ _=>rw[h]at e;cases e
def C5:∀(l:List (Str×Tok)),aq ((l.map (·.1)).map V.str) (strValues l)
 |[]=>.nil
 | (y,t)::l=>.cons ⟨t,rfl⟩ (C5 l)
def Kh{x y:Str}{t u:Tok}(hy:(y.length==0)=false)(hz:x.length<=sizeLine)(hz2:(Txt.split x y).length<=sizeLine)(hq:∀(l:List (Str×Tok))(k:Tok),l.map (·.1)=Txt.split x y->Q (.ref s.heap.objs.size) {s with heap:=s.heap.push {cls:=.type "list",data:=.seq (strValues l).toArray},toks:=k}):wpAny (model prog w) A (call (.builtin "str.split") [.str x t,.str y u]) Q E s:=by
 cases h1:(decide (x.length<y.length)||decide (Builtin.Str.strKind x<Builtin.Str.strKind y))with
 |true=>exact mf F.slot_str_split (typeIs_str _ _ _) F.entry_str_split (F.args_str_split_2 _ _) (meets_str_split_cannot_occur x y t u h1) (hq [(x,t)] s.toks (aL h1).symm)
 |false =>
  cases hf:(Builtin.Str.occurrences x y 0 x.length (x.length+1)).isEmpty with
  |true=>exact mf F.slot_str_split (typeIs_str _ _ _) F.entry_str_split (F.args_str_split_2 _ _) (meets_str_split_not_found x y t u h1 hy hf) (hq [(x,t)] s.toks ((aK (by rw[h1];decide)).trans (aL hf)).symm)
  |false =>
   have e:Txt.split x y=Builtin.Str.partsBetween x (Builtin.Str.occurrences x y 0 x.length (x.length+1)) y.length:=(aK (by rw[h1];decide)).trans (aK (by rw[hf];decide));rw[e]at hq hz2;refine mf F.slot_str_split (typeIs_str _ _ _) F.entry_str_split (F.args_str_split_2 _ _) (meets_str_split_sep x y t u h1 hy hf hz hz2) ?_;have:=hq (numbered s.toks (Builtin.Str.partsBetween x (Builtin.Str.occurrences x y 0 x.length (x.length+1)) y.length)) (s.toks+(Builtin.Str.partsBetween x (Builtin.Str.occurrences x y 0 x.length (x.length+1)) y.length).length) (numbered_texts _ _);rw[<-strsFrom_eq]at this;exact this
def WZ:V->List V->Hp->VK->Prop:=λx vs H Q=>∃a b:Str,x=.str a/\vs=[.str b]/\(b.length==0)=false/\a.length<=1000/\(Txt.split a b).length<=2000/\∀q:JY,H q=none->Q (.ref q) (ü H q (.lst ((Txt.split a b).map V.str)))
def Pw:V2 X "str.split" WZ:=by intro bv s Z H x vs v us Q I rx rv h;obtain⟨a,b,rfl,rfl,hb,ha,hz,q⟩:=h;obtain⟨t,rfl⟩:=rx;obtain⟨u,rfl,ru⟩:=rv.one;obtain⟨t',rfl⟩:=ru;refine Kh hb (by rw[jM];lia) (by rw[jM];lia) λl k e=>?_;refine⟨.ref _,_,I.laid (t':=k) (o:=.lst ((Txt.split a b).map V.str)) (a:=s.heap.objs.size) (λb o eb=>bG _ eb) (ae _) ⟨by rw[aJ,jM];lia,_,0,?_,bK _ rfl⟩,rfl,q _ (I.cI.fresh (ae _))⟩;rw[<-e];exact C5 l
section
variable{g:TG}{Q:VK}
def Nl{lo st:Int}(Pv:Nat->St->Hp->Prop)(h0:Pv 0 Z H)(hs:∀(i:Nat)(Z:St)(H:Hp)(N:St->Hp->Prop),(∀Z H,Pv (i+1) Z H->N Z H)->i<n->Pv i Z H->g (.int (lo+i*st)) Z H (Lb tt te D N))(hd:∀Z H,Pv n Z H->Q (.ref D) H):oP (Sl lo st n) g tt te D Z H Q:=by refine yA n Pv h0 (λi Z H N hN lt p=>⟨lt,?_⟩) λZ H p=>⟨ae _,hd Z H p⟩;rintro x H' ⟨rfl,rfl⟩;exact hs i Z _ N hN lt p
end
inductive ar(K:Ni)(H:Hp):Nat->V->PyData->Prop where
 |cX {n:Nat}:ar K H n .cX .none
 |bl {n:Nat} (b:Bool):ar K H n (.bl b) (.bool b)
 |int {n:Nat} (i:Int):ar K H n (.int i) (.int i)
 |str {n:Nat} (x:Str) (h:PyData.strOk x=true):ar K H n (.str x) (.str x)
 |lst {n:Nat} {a:JY} {xs:List V} {ds:List PyData} (ha:aX K H a xs) (hl:xs.length=ds.length) (h:∀(i:Nat)(x:V)(d:PyData),xs[i]?=some x->ds[i]?=some d->ar K H n x d):ar K H (n+1) (.ref a) (.list ds)
 |tup {n:Nat} {a:JY} {xs:List V} {ds:List PyData} (ha:bO K H a xs) (hl:xs.length=ds.length) (h:∀(i:Nat)(x:V)(d:PyData),xs[i]?=some x->ds[i]?=some d->ar K H n x d):ar K H (n+1) (.ref a) (.tuple ds)
def Ki:∀(ds:List PyData),(∀d∈ds,d.canLay0=true)->PyData.canLayAll0 ds=true
 |[],_=>rfl
 |d::ds,h=>by show(PyData.canLay0 d&&PyData.canLayAll0 ds)=true;rw[h d bp,Ki ds λx hx=>h x (bU _ hx)];rfl
def Kj{n:Nat}:∀(ds:List PyData),(∀d∈ds,d.depth<=n)->PyData.depthAll ds<=n
 |[],_=>bt _
 |d::ds,h=>by show max (PyData.depth d) (PyData.depthAll ds)<=n;exact Nat.max_le.mpr ⟨h d bp,Kj ds λx hx=>h x (bU _ hx)⟩
def zH(hl:xs.length=ds.length){d:PyData}(h:d∈ds):∃(i:Nat)(x:V),xs[i]?=some x/\ds[i]?=some d:=by obtain⟨i,hi,e⟩:=eU h;exact⟨i,xs[i]'(by lia),cT _,by rw[cT hi,e]⟩
def ar.lay{K:Ni}{d:PyData}(h:ar K H n v d):d.canLay0=true:=by
 induction h with
 |cX=>rfl
 |bl=>rfl
 |int=>rfl
 |str x hx=>exact hx
 |lst ha hl h ih=>exact Ki _ λd hd=>let⟨i,x,h1,h2⟩:=zH hl hd;ih i x d h1 h2
 |tup ha hl h ih=>exact Ki _ λd hd=>let⟨i,x,h1,h2⟩:=zH hl hd;ih i x d h1 h2
def ar.dep{K:Ni}{d:PyData}(h:ar K H n v d):d.depth<=n:=by
 induction h with
 |cX=>exact bt _
 |bl=>exact bt _
 |int=>exact bt _
 |str x hx=>exact bt _
 |lst ha hl h ih=>exact Nat.succ_le_succ (Kj _ λd hd=>let⟨i,x,h1,h2⟩:=zH hl hd;ih i x d h1 h2)
 |tup ha hl h ih=>exact Nat.succ_le_succ (Kj _ λd hd=>let⟨i,x,h1,h2⟩:=zH hl hd;ih i x d h1 h2)
def ar.up{K:Ni}{m:Nat}{d:PyData}(h:ar K H n v d)(hm:n<=m):ar K H m v d:=by
 induction h generalizing m with
 |cX=>exact .cX
 |bl b=>exact .bl b
 |int i=>exact .int i
 |str x hx=>exact .str x hx
 |lst ha hl h ih=>cases m with
  |zero=>lia
  |succ m=>exact .lst ha hl λi x d h1 h2=>ih i x d h1 h2 (by lia)
 |tup ha hl h ih=>cases m with
  |zero=>lia
  |succ m=>exact .tup ha hl λi x d h1 h2=>ih i x d h1 h2 (by lia)
def pA{h:Heap}:∀(us:List JZ)(ds:List PyData),us.length=ds.length->(∀(i:Nat)(u:JZ)(d:PyData),us[i]?=some u->ds[i]?=some d->∃as,Reads h u d as)->∃as,ReadsAll h us ds as
 |[],[],_,_=>⟨[],.nil⟩
 |[],_::_,e,_=>by cases e
 |_::_,[],e,_=>by cases e
 |u::us,d::ds,e,q=>by obtain⟨as,r⟩:=q 0 u d rfl rfl;obtain⟨bs,rs⟩:=pA us ds (Nat.succ.inj e) λi u d h1 h2=>q (i+1) u d (by simpa using h1) (by simpa using h2);exact⟨as++bs,.cons r rs⟩
def aq.back:∀{xs:List V}{us:List JZ}{i:Nat}{u:JZ},aq xs us->us[i]?=some u->∃x,xs[i]?=some x/\æ x u
 |_,_,_,_,.nil,e=>by simp at e
 |_,_,0,_,.cons r _,e=>by simp at e;subst e;exact⟨_,rfl,r⟩
 |_,_,i+1,u,.cons _ t,e=>by obtain⟨x,h1,h2⟩:=aq.back (i:=i) (u:=u) t (by simpa using e);exact⟨x,by simpa using h1,h2⟩
def ar.reads(I:â X bv Z H s){d:PyData}(h:ar X.K H n v d):∀{u:JZ},æ v u->∃as,Reads s.heap u d as:=by
 induction h with
 |cX=>intro u r;cases r;exact⟨_,.none⟩
 |bl b=>intro u r;cases r;exact⟨_,.bool b⟩
 |int i=>intro u r;obtain⟨t,rfl⟩:=r;exact⟨_,.int i t⟩
 |str x hx=>intro u r;obtain⟨t,rfl⟩:=r;exact⟨_,.str x t⟩
 |lst ha hl h ih =>
  intro u r;cases r;obtain⟨aa,rv,⟨o,n,ho,hc,_,hd⟩,hz⟩:=I.list ha;obtain⟨as,rs⟩:=pA (h:=s.heap) aa _ (by rw[<-rv.length,hl]) λi u d h1 h2=>by obtain⟨x,h3,h4⟩:=rv.back h1;exact ih i x d h3 h2 h4
  exact⟨_,.list ho hc hd (by simpa using rs)⟩
 |tup ha hl h ih =>
  intro u r;cases r;obtain⟨aa,rv,⟨o,ho,hc,n,hd⟩,hz⟩:=I.tuple ha;obtain⟨as,rs⟩:=pA (h:=s.heap) aa _ (by rw[<-rv.length,hl]) λi u d h1 h2=>by obtain⟨x,h3,h4⟩:=rv.back h1;exact ih i x d h3 h2 h4
  exact⟨_,.tuple ho hc hd (by simpa using rs)⟩
def Y4(K:Ni)(neg:Bool):R2:=λx y H Q=>∃d e,ar K H 8 x d/\ar K H 8 y e/\Q (.bl (if neg then !PyData.eqv d e else PyData.eqv d e)) H
def Wa(K:Ni)(hu:X.A.units+16<cLine)(hK:X.K=K:=by rfl):kY X (compareOp .Eq) (Y4 K false):=by subst hK;intro bv s Z H x y v u Q I rx ry h;obtain⟨d,e,h1,h2,q⟩:=h;obtain⟨as,r1⟩:=h1.reads I rx;obtain⟨bs,r2⟩:=h2.reads I ry;have z:=h1.dep;exact SeqAt.compareEq_reads r1 r2 h1.lay h2.lay (by lia) ⟨.bl _,H,I,rfl,q⟩
def nE(K:Ni)(hu:X.A.units+16<cLine)(hK:X.K=K:=by rfl):kY X (compareOp .NotEq) (Y4 K true):=by subst hK;intro bv s Z H x y v u Q I rx ry h;obtain⟨d,e,h1,h2,q⟩:=h;obtain⟨as,r1⟩:=h1.reads I rx;obtain⟨bs,r2⟩:=h2.reads I ry;have z:=h1.dep;exact SeqAt.compareNe_reads r1 r2 h1.lay h2.lay (by lia) ⟨.bl _,H,I,rfl,q⟩
def ar.eqv{K:Ni}{H:Hp}{n:Nat}{v:V}{d:PyData}(h:ar K H n v d):PyData.eqv d d=true:=SeqAt.eqv_refl d h.lay
def ar.same{K:Ni}{d:PyData}(h:ar K H n v d)(s:aI H H'):ar K H' n v d:=by
 induction h with
 |cX=>exact .cX
 |bl b=>exact .bl b
 |int i=>exact .int i
 |str x hx=>exact .str x hx
 |lst ha hl h ih=>exact .lst (s.seq ha) hl ih
 |tup ha hl h ih=>exact .tup (s.tup ha) hl ih
def ù(H H':Hp):Prop:=∀(a:JY)(xs:List V),Rd H a (.tup xs)->Rd H' a (.tup xs)
def ù.tup{K:Ni}(k:ù H H')(h:bO K H a xs):bO K H' a xs:=h.elim (λh=>.inl (k a xs h)) .inr
def ù.trans{MW:Hp}(a:ù H H')(b:ù H' MW):ù H MW:=λx xs h=>b x xs (a x xs h)
def ù.same(s:aI H H'):ù H H':=λa xs h=>by
 rcases h with h|⟨o,h⟩
 .exact .inl (s _ _ h)
 exact .inr ⟨o,s _ _ h⟩
mutual
def MX:PyData->Bool
 |.none|.bool _|.int _|.str _=>true
 |.tuple xs=>iH xs
 |.list _|.dict _=>false
def iH:List PyData->Bool
 |[]=>true
 |x::xs=>MX x&&iH xs
end
def Al:∀{ds:List PyData}{d:PyData},iH ds=true->d∈ds->MX d=true
 |x::xs,d,h,hd=>by
  have h:(MX x&&iH xs)=true:=h;rw[tS]at h;rcases au.mp hd with rfl|hd
  .exact h.1
  exact Al h.2 hd
def ar.kept{K:Ni}{d:PyData}(h:ar K H n v d)(k:ù H H')(hn:MX d=true):ar K H' n v d:=by
 induction h with
 |cX=>exact .cX
 |bl b=>exact .bl b
 |int i=>exact .int i
 |str x hx=>exact .str x hx
 |lst ha hl h ih=>cases hn
 |tup ha hl h ih=>exact .tup (k.tup ha) hl λi x d h1 h2=>ih i x d h1 h2 (Al hn (bL h2))
def oQ.same{K:Ni}(h:oQ b K H a xs)(s:aI H H'):oQ b K H' a xs:=by
 cases b
 .exact s.tup (show bO K H a xs from h)
 exact s.seq (show aX K H a xs from h)
def Y5(K:Ni):List V->Hp->VK->Prop:=λxs H Q=>∃(b:Bool)(p:JY)(ys:List V),xs=[.ref p]/\oQ b K H p ys/\∀l H',aI H H'->bO K H' l ys->Q (.ref l) H'
def pB(K:Ni)(hK:X.K=K:=by rfl):dt X (.type "tuple") (Y5 K):=by
 intro bv s Z H xs us Q I r h;obtain⟨b,p,ys,rfl,hs,q⟩:=h;refine cW K hK bv s Z H _ us Q I r ⟨p,ys,rfl,?_⟩;cases b with
 |true=>exact .inl ⟨hs,λl hl=>q l _ ((aI.refl _).new hl) (bO.of aB)⟩
 |false=>exact .inr ⟨hs,q p H (aI.refl _) hs⟩
def C6{M:Model}{A:Jd}{E:JZ->JX->Prop}{β:Type}{f:Nat->β->Sem (ForInStep β)}(I:Nat->β->JX->Prop)(Q:β->JX->Prop){b:Nat}(turn:∀i c s,i<b->I i c s->wpAny M A (f i c) (λr s'=>match r with|.done c'=>Q c' s'|.yield c'=>I (i+1) c' s') E s)(fin:∀c s,I b c s->Q c s):
  ∀(n a:Nat)(c:β)(s:JX),a+n=b->I a c s->wpAny M A (forIn (List.range' a n) c f) Q E s
 |0,a,c,s,e,h=>by
  rw[List.range'_zero,we];obtain rfl:a=b:=by lia
  exact aS (fin c s h)
 |n+1,a,c,s,e,h=>by
  rw[List.range'_succ,wY];refine aG (gW (turn a c s (by lia) h) (λr s' h'=>?_) λ_ _ e=>e);cases r with
  |done c'=>exact aS h'
  |yield c'=>exact C6 I Q turn fin n (a+1) c' s' (by lia) h'
def Nm{M:Model}{β:Type}(f:Nat->β->Sem (ForInStep β))(I:Nat->β->JX->Prop)(Q:β->JX->Prop){b:Nat}{c:β}(turn:∀i c s,i<b->I i c s->wpAny M A (f i c) (λr s'=>match r with|.done c'=>Q c' s'|.yield c'=>I (i+1) c' s') E s)(fin:∀c s,I b c s->Q c s)(h:I 0 c s):wpAny M A (forIn [0:b] c f) Q E s:=by
 rw[Std.Legacy.Range.forIn_eq_forIn_range'];have z:([0:b]:Std.Legacy.Range).size=b:=by simp[Std.Legacy.Range.size]
 show wpAny M A (forIn (List.range' 0 ([0:b]:Std.Legacy.Range).size 1) c f) Q E s;rw[z];exact C6 I Q turn fin b 0 c s (by lia) h
def B2(l:JY)(items:Array JZ)(n:Nat)(dd:Option JY)(sl:Array (Option JZ))(x:JZ)(e:JZ->Bool)(j:Nat)(hj:j<items.size)(h1:e items[j]=true)(h2:∀(i:Nat)(hi:i<items.size),i<j->e items[i]=false):
  Meets (Builtin.«tuple.index» ⟨[.ref l,x],[]⟩)
   (λA R s=>s.heap.get? l=some {cls:=.type "tuple",dict:=dd,data:=.seq items n,slots:=sl}/\(∀y,y∈items->SeqAt.EqAt A.in1 s y x (e y))/\R (.ok (.ret (.int (j:Nat) s.toks))) {s with toks:=s.toks+1}) :=
 .of_wp λprog w A R s h=>by
  obtain⟨hp,g,d,tk,os⟩:=s;obtain⟨hl,he,h⟩:=h
  wp_walk using wpAny_loadPart' hl,Nm _ (λi b s'=>b.1=none/\i<=j/\s'=⟨hp,g,d,tk,os⟩) _
  case turn =>
   rintro i b s' hi ⟨hb,yg,rfl⟩;have oW:i<items.size:=(by lia);have e0:items[i]?=some items[i]:=(by simp[oW]);simp only[e0];refine aG (he _ (Array.getElem_mem oW) prog w _ _ ?_);by_cases z:i=j
   .subst z;rw[h1]
    wp_walk
    exact⟨_,rfl,h⟩
   rw[h2 i oW (by lia)]
   wp_walk
   exact⟨rfl,by lia,rfl⟩
  case fin =>
   rintro b s' ⟨hb,yg,rfl⟩;lia
  case h=>exact⟨rfl,bt _,rfl⟩
def Sm(K:Ni):V->List V->Hp->VK->Prop:=λx vs H Q=>∃(p:JY)(xs:List V)(y:V)(j:Nat),x=.ref p/\vs=[y]/\bO K H p xs/\jy y=true/\xs.all jy=true/\(∃z,xs[j]?=some z/\Bv z y=true)/\(∀(i:Nat)(z:V),i<j->xs[i]?=some z->Bv z y=false)/\Q (.int (j:Nat)) H
def Nn(K:Ni)(hK:X.K=K:=by rfl):V2 X "tuple.index" (Sm K):=by
 subst hK;intro bv s Z H x vs v us Q I rx rv h;obtain⟨p,xs,y,j,rfl,rfl,hq,fy,fs,⟨z,hz,ez⟩,hn,q⟩:=h;cases rx;obtain⟨u,rfl,ru⟩:=rv.one;obtain⟨aa,r,⟨o,ho,hc,n,hd⟩,hl⟩:=I.tuple hq;obtain⟨Y6,HU,U2,Am⟩:=o;simp only at hc hd;subst hc hd;have lc:=r.length;have hjx:j<xs.length:=(bq.mp hz).1;have hj:j<aa.toArray.size:=by rw[bo,<-lc];exact hjx
 have key:∀(i:Nat)(hi:i<aa.toArray.size),∃z,xs[i]?=some z/\Gd y aa.toArray[i]=Bv z y:=λi hi=>by
  have Sn:i<aa.length:=by simpa using hi
  have oW:i<xs.length:=by lia
  obtain⟨w,ew,NS⟩:=r.get (i:=i) (x:=xs[i]) (cT oW);have e2:aa.toArray[i]=w:=by rw[List.getElem_toArray];exact bR ((cT Sn).symm.trans ew)
  refine⟨xs[i],cT oW,?_⟩;rw[e2];exact KS NS (og.mp fs _ (jJ oW))
 refine mf F.slot_tuple_index ⟨_,ho,rfl⟩ F.entry_tuple_index (F.args_tuple_index_2 _ _) (B2 p aa.toArray n HU Am u (Gd y) j hj ?_ ?_) ⟨ho,λw hw=>mC ru fy r fs w (by simpa using hw),⟨.int _,H,I.tok _,⟨_,rfl⟩,q⟩⟩
 .obtain⟨z',h1,h2⟩:=key j hj;rw[hz]at h1;cases h1;rw[h2];exact ez
 intro i hi yg;obtain⟨z',h1,h2⟩:=key i hi;rw[h2];exact hn i z' yg h1
def Y7(K:Ni)(a:JY):Prop:=∃o,K.lookup a=some o/\o.cls=.type "tuple"/\o.dict=none
def j6(A:Jd)(s:JX)(x y:JZ)(b:Bool):Prop:=∀(prog:Ja)(w:Jb)(E:JZ->JX->Prop)(Q:JZ->JX->Prop),Q (.bool b) s->wpAny (model prog w) A (richCompare .Lt x y) Q E s
def nF(e l:Nat->Bool)(z:Bool):List Nat->Bool
 |[]=>z
 |j::r=>if e j=true then nF e l z r else l j
def Kk(l b:JY)(us ws:Array JZ)(n n2:Nat)(dd WJ:Option JY)(sl Yo:Array (Option JZ))(e g:Nat->Bool):
  Meets (Builtin.«tuple.__lt__» ⟨[.ref l,.ref b],[]⟩)
   (λA R s=>s.heap.get? l=some {cls:=.type "tuple",dict:=dd,data:=.seq us n,slots:=sl}/\s.heap.get? b=some {cls:=.type "tuple",dict:=WJ,data:=.seq ws n2,slots:=Yo} /\
    (∀(j:Nat)(h1:j<us.size)(h2:j<ws.size),SeqAt.EqAt A.in1 s us[j] ws[j] (e j))/\(∀(j:Nat)(h1:j<us.size)(h2:j<ws.size),e j=false->j6 A.in1 s us[j] ws[j] (g j)) /\
    R (.ok (.ret (.bool (nF e g (decide (us.size<ws.size)) (List.range (min us.size ws.size)))))) s) :=
 .of_wp λprog w A R s h=>by
  obtain⟨hp,g0,d,tk,os⟩:=s;obtain⟨hl,hb,he,hg,h⟩:=h;have f2:=AutoSeq1.sub_tuple_tuple;have hZ:(us.toList.zip ws.toList).length=min us.size ws.size:=by simp
  wp_walk using AutoSeq1.wpAny_loadPart' hl,AutoSeq1.wpAny_loadPart' hb,wpAny_forIn_list _ (λû b s'=>b.1=none/\s'=⟨hp,g0,d,tk,os⟩/\∃i,û=(us.toList.zip ws.toList).drop i /\
   R (.ok (.ret (.bool (nF e g (decide (us.size<ws.size)) ((List.range (min us.size ws.size)).drop i))))) ⟨hp,g0,d,tk,os⟩) _
  case turn =>
   rintro⟨y,x⟩ û b s' ⟨Pc,rfl,i,hz,hR⟩;have hL:i<(us.toList.zip ws.toList).length:=by
    rcases Nat.lt_or_ge i (us.toList.zip ws.toList).length with h'|h'
    .exact h'
    rw[DY h']at hz;cases hz
   have hm:i<min us.size ws.size:=hZ▸hL;have h1:i<us.size:=fS hm (Nat.min_le_left _ _);have h2:i<ws.size:=fS hm (Nat.min_le_right _ _);rw[wQ hL]at hz;injection hz with hq hw;have hy:y=us[i]:=(by have:=az Prod.fst hq;simpa using this);have hx:x=ws[i]:=(by have:=az Prod.snd hq;simpa using this);subst hy hx;have hd:(List.range (min us.size ws.size)).drop i=i::(List.range (min us.size ws.size)).drop (i+1):=(by simp[wQ,hm]);rw[hd]at hR;refine aG (he i h1 h2 prog w _ _ ?_);cases hy:e i with
   |true =>
    rw[nF,aL hy]at hR
    wp_walk
    exact⟨rfl,rfl,i+1,hw,hR⟩
   |false =>
    rw[nF,aK (by rw[hy];decide)]at hR;refine aG (iD (aG (hg i h1 h2 hy prog w _ _ ?_)))
    wp_walk
    exact⟨_,rfl,hR⟩
  case fin =>
   rintro⟨b1,b2⟩ s' ⟨Pc,rfl,i,hz,hR⟩;simp only at Pc;subst Pc;have hG:min us.size ws.size<=i:=by
    rcases Nat.lt_or_ge i (us.toList.zip ws.toList).length with h'|h'
    .rw[wQ h']at hz;cases hz
    exact hZ▸h'
   rw[DY (by simpa using hG)]at hR
   wp_walk
   exact⟨_,rfl,by simpa[Builtin.Tuple.tupleCompareSizes,nF]using hR⟩
  case h =>
   exact⟨rfl,rfl,0,rfl,by simpa using h⟩
def j6.tuples{b:JY}{us ws:Array JZ}{e g:Nat->Bool}(hl:s.heap.IsTuple l us)(hb:s.heap.IsTuple b ws)(hu:A.units<cLine)(he:∀(j:Nat)(h1:j<us.size)(h2:j<ws.size),SeqAt.EqAt A.in1 s us[j] ws[j] (e j))(hg:∀(j:Nat)(h1:j<us.size)(h2:j<ws.size),e j=false->j6 A.in1 s us[j] ws[j] (g j)):j6 A s (.ref l) (.ref b) (nF e g (decide (us.size<ws.size)) (List.range (min us.size ws.size))):=λprog w E Q h=>by
 obtain⟨⟨cls,dd,data,sl⟩,ho,hc,n,hd⟩:=id hl;obtain⟨⟨aBM,WJ,data2,Yo⟩,Yp,Yq,n2,hd2⟩:=id hb;simp only at hc hd Yq hd2;subst hc hd Yq hd2;exact richCompare_meets_room (op:=.Lt) ⟨_,ho,rfl⟩ ⟨_,Yp,rfl⟩ F.slot_tuple_lt F.entry_tuple_lt (F.args_tuple_lt_2 _ _) (Kk l b us ws n n2 dd WJ sl Yo e g)
  ⟨ho,Yp,he,hg,show Value.bool _≠Value.notImplemented/\Q (.bool _) s from⟨(λx=>nomatch x),h⟩⟩ hu
mutual
def cZ:PyData->PyData->Bool
 |.int a,.int b=>decide (a<b)
 |.str x,.str y=>decide (x.cps.toList<y.cps.toList)
 |.tuple xs,.tuple ys=>vK xs ys
 |_,_=>false
def vK:List PyData->List PyData->Bool
 |[],[]=>false
 |[],_::_=>true
 |_::_,[]=>false
 |x::xs,y::ys=>if PyData.eqv x y=true then vK xs ys else cZ x y
end
mutual
def B3:PyData->PyData->Bool
 |.int _,.int _=>true
 |.str _,.str _=>true
 |.tuple xs,.tuple ys=>El xs ys
 |_,_=>false
def El:List PyData->List PyData->Bool
 |x::xs,y::ys=>B3 x y&&El xs ys
 |_,_=>true
end
abbrev qj(xs ys:List PyData)(j:Nat):Bool:=cZ (xs.getD j .none) (ys.getD j .none)
def HV(e g:Nat->Bool)(z:Bool):∀l:List Nat,nF e g z (l.map (·+1))=nF (λj=>e (j+1)) (λj=>g (j+1)) z l
 |[]=>rfl
 |x::r=>by rw[bz,nF,nF,HV e g z r]
def Em:∀xs ys:List PyData,nF (SeqAt.pairEq xs ys) (qj xs ys) (decide (xs.length<ys.length)) (List.range (min xs.length ys.length))=vK xs ys
 |[],[]=>by rfl
 |[],_::_=>by simp[nF,vK]
 |_::_,[]=>by simp[nF,vK]
 |x::xs,y::ys=>by
  have e:min (x::xs).length (y::ys).length=min xs.length ys.length+1:=by simp only[cQ];lia
  rw[e,List.range_succ_eq_map,nF];have e2:List.map Nat.succ (List.range (min xs.length ys.length))=(List.range (min xs.length ys.length)).map (·+1):=rfl;rw[e2,HV,vK];have e3:decide ((x::xs).length<(y::ys).length)=decide (xs.length<ys.length):=by simp
  rw[e3];have:=Em xs ys;rw[<-this];rfl
def j6.int(i j:Int)(t u:Tok):j6 A s (.int i t) (.int j u) (decide (i<j)):=λprog w E Q h=>lt_int h
def j6.str(x y:Str)(t u:Tok):j6 A s (.str x t) (.str y u) (decide (x.cps.toList<y.cps.toList)):=λprog w E Q h=>lt_str h
def mG{h:Heap}:∀{vs:List JZ}{xs:List PyData}{as:List JY},ReadsAll h vs xs as->vs.length=xs.length
 |_,_,_,.nil=>rfl
 |_,_,_,.cons _ q=>az Nat.succ (mG q)
def iq{h:Heap}:∀{vs:List JZ}{xs:List PyData}{as:List JY},ReadsAll h vs xs as->∀(j:Nat)(hj:j<vs.length),∃bs,Reads h vs[j] (xs.getD j .none) bs
 |_,_,_,.nil,_,hj=>absurd hj (mY _)
 |_,_,_,.cons r _,0,_=>⟨_,r⟩
 |_,_,_,.cons _ q,j+1,hj=>iq q j (rS hj)
def En:∀(xs ys:List PyData),El xs ys=true->∀j,j<xs.length->j<ys.length->B3 (xs.getD j .none) (ys.getD j .none)=true
 |[],_,_,_,h,_=>absurd h (mY _)
 |_::_,[],_,_,_,h=>absurd h (mY _)
 |x::xs,y::ys,o,j,h1,h2=>by
  have go:B3 x y=true/\El xs ys=true:=by simpa[El]using o
  cases j with
  |zero=>exact go.1
  |succ j=>exact En xs ys go.2 j (rS h1) (rS h2)
def An:∀(xs:List PyData),PyData.canLayAll0 xs=true->∀j,j<xs.length->(xs.getD j .none).canLay0=true
 |[],_,_,h=>absurd h (mY _)
 |x::xs,o,j,h=>by
  have ga:x.canLay0=true/\PyData.canLayAll0 xs=true:=by simpa[PyData.canLayAll0]using o
  cases j with
  |zero=>exact ga.1
  |succ j=>exact An xs ga.2 j (rS h)
def Kl:∀(xs:List PyData)(j:Nat),j<xs.length->(xs.getD j .none).depth<=PyData.depthAll xs
 |[],_,h=>absurd h (mY _)
 |x::xs,j,h=>by
  show _<=max x.depth (PyData.depthAll xs);cases j with
  |zero=>exact Nat.le_max_left _ _
  |succ j=>exact iA (Kl xs j (rS h)) (Nat.le_max_right _ _)
def Px:∀(n:Nat)(d e:PyData)(A:Jd)(s:JX)(a b:JZ)(as bs:List JY),d.depth<=n->Reads s.heap a d as->Reads s.heap b e bs->d.canLay0=true->e.canLay0=true->B3 d e=true ->
  A.units+n<cLine->j6 A s a b (cZ d e):=by
 intro n
 induction n with
 |zero =>
  intro d e A s a b as bs hn ra rb ha hb ho hu;cases ra with
  |int=>cases rb with
   |int=>exact j6.int _ _ _ _
   |_=>simp[B3]at ho
  |str=>cases rb with
   |str=>exact j6.str _ _ _ _
   |_=>simp[B3]at ho
  |tuple=>exact absurd hn (by show ¬(_+1<=0);lia)
  |_=>simp[B3]at ho
 |succ n ih =>
  intro d e A s a b as bs hn ra rb ha hb ho hu;cases ra with
  |int=>cases rb with
   |int=>exact j6.int _ _ _ _
   |_=>simp[B3]at ho
  |str=>cases rb with
   |str=>exact j6.str _ _ _ _
   |_=>simp[B3]at ho
  |@tuple a o vs m xs _ h1 h2 h3 h4 =>
   cases rb with
   |@tuple b o2 ws m2 ys _ k1 k2 k3 k4 =>
    have l1:=mG h4;have l2:=mG k4;have e1:vs.size=xs.length:=(by simpa using l1);have e2:ws.size=ys.length:=(by simpa using l2);have ho:El xs ys=true:=(by simpa[B3]using ho);have hn:PyData.depthAll xs<=n:=aAp hn;have q:=j6.tuples (A:=A) (s:=s) (e:=SeqAt.pairEq xs ys) (g:=qj xs ys) ⟨o,h1,h2,m,h3⟩ ⟨o2,k1,k2,m2,k3⟩ (by lia) (λj j1 j2=>?_) (λj j1 j2 _=>?_)
    .rw[e1,e2,Em]at q;have e3:cZ (.tuple xs) (.tuple ys)=vK xs ys:=(by rw[cZ]);rw[e3];exact q
    .have:=SeqAt.eqAt_readsAll xs ys A.in1 s vs.toList ws.toList _ _ h4 k4 ha hb (by show A.units+1+_<cLine;lia) j (by simpa using j1) (by simpa using j2)
     simpa using this
    obtain⟨as2,q1⟩:=iq h4 j (by simpa using j1);obtain⟨bs2,q2⟩:=iq k4 j (by simpa using j2);have:=ih _ _ A.in1 s _ _ as2 bs2 (iA (Kl xs j (by lia)) hn) q1 q2 (An xs ha j (by lia)) (An ys hb j (by lia)) (En xs ys ho j (by lia) (by lia)) (by show A.units+1+n<cLine;lia)
    simpa[qj]using this
   |_=>simp[B3]at ho
  |_=>simp[B3]at ho
section
open PySem.W
structure Ord(N:Nat)(lt:Nat->Nat->Bool):Prop where
 rN:∀x y,x<N->y<N->lt x y=true->lt y x=false
 zI:∀x y z,x<N->y<N->z<N->lt y x=false->lt z y=false->lt z x=false
structure rq(N:Nat)(p:Array Nat):Prop where
 sz:p.size=N
 lo:∀i,i<N->p.getD i 0<N
 pm:p.Perm (List.toArray (List.range N))
variable{lt:Nat->Nat->Bool}{cmp:Nat->Nat->(Bool->JX->Prop)->JX->Prop}
def JR(lt:Nat->Nat->Bool)(p:Array Nat)(m:Nat):Prop:=∀i j,i<=j->j<m->lt (p.getD j 0) (p.getD i 0)=false
def U3(lt:Nat->Nat->Bool)(p:Array Nat)(m:Nat):Prop:=∀i j,i<=j->j<m->lt (p.getD i 0) (p.getD j 0)=false
def Xi(lt:Nat->Nat->Bool)(p:Array Nat)(a b:Nat):Prop:=∀i j,a<=i->i<b->a<=j->j<b->lt (p.getD i 0) (p.getD j 0)=false
def Ord.refl(o:Ord N lt){x:Nat}(h:x<N):lt x x=false:=by
 cases e:lt x x with
 |false=>rfl
 |true=>rw[<-o.rN x x h h e,e]
def rq.of{q:Array Nat}(h:rq N p)(hp:q.Perm p)(hz:q.size=p.size):rq N q:=by
 have e:=hp.trans h.pm;refine⟨hz.trans h.sz,λi hi=>?_,e⟩;have hq:i<q.size:=by rw[hz,h.sz];exact hi
 have m:q.getD i 0∈q:=by
  have:q.getD i 0=q[i]:=by simp[Array.getD,hq]
  rw[this];exact Array.getElem_mem hq
 have m2:=e.mem_iff.mp m
 simpa using m2
def lF(hj:j<=p.size)(k:Nat):(kas_rev p i j).getD k 0=if i<=k/\k<j then p.getD (i+j-1-k) 0 else p.getD k 0:=by unfold kas_rev;rw[Cj,getElem?_mirror_all hj k];split<;>rw[Cj]
def rq.rev(h:rq N p):rq N (kas_rev p i j):=h.of (mirror_perm ..) (mirror_size ..)
def Km{l:Nat}(hk:k<p.size)(hl:l<=k)(i:Nat):(bubble p k (k-l)).getD i 0=if i=l then p.getD k 0 else if l<i/\i<=k then p.getD (i-1) 0 else p.getD i 0:=by
 rw[Cj,getElem?_bubble hk _ (by lia)];have e:k-(k-l)=l:=by lia
 rw[e];by_cases c1:i=l
 .rw[aL c1,aL c1];exact(Cj ..).symm
 rw[aK c1,aK c1];by_cases c2:l<i/\i<=k
 .rw[aL c2,aL c2];exact(Cj ..).symm
 rw[aK c2,aK c2];exact(Cj ..).symm
def rq.bub(h:rq N p):rq N (bubble p i j):=h.of (bubble_perm ..) (bubble_size ..)
def U4(N:Nat)(lt:Nat->Nat->Bool)(cmp:Nat->Nat->(Bool->JX->Prop)->JX->Prop)(s:JX):Prop:=∀i j C,i<N->j<N->C (lt i j) s->cmp i j C s
def Kn(hc:U4 N lt cmp s)(o:Ord N lt){p:Array Nat}(h:rq N p){Q:Nat->JX->Prop}:∀(f n:Nat),1<=n->n+f<=N->JR lt p n ->
  (∀m,n<=m->m<=n+f->JR lt p m->(m=n+f\/lt (p.getD m 0) (p.getD (m-1) 0)=true)->Q m s)->(kas_asc p f n).kasWp cmp Q s
 |0,n,_,_,a,q=>q n (ae _) (by lia) a (.inl rfl)
 |f+1,n,h1,hf,a,q=>by
  refine hc _ _ _ (h.lo n (by lia)) (h.lo _ (by lia)) ?_;cases e:lt (p.getD n 0) (p.getD (n-1) 0)with
  |true=>exact q n (ae _) (by lia) a (.inr e)
  |false =>
   refine Kn hc o h f (n+1) (by lia) (by lia) (λi j yg hj=>?_) λm m1 m2 m3 m4=>q m (by lia) (by lia) m3 (m4.imp (λz=>by lia) id);by_cases Y8:j<n
   .exact a i j yg Y8
   obtain rfl:j=n:=(by lia);by_cases hi:i=j
   .subst hi;exact o.refl (h.lo i (by lia))
   exact o.zI _ (p.getD (j-1) 0) _ (h.lo i (by lia)) (h.lo _ (by lia)) (h.lo j (by lia)) (a i (j-1) (by lia) (by lia)) e
def U3.rev{r:Nat}(h:rq N p)(hn:n<=N)(hr:r<=n)(d:U3 lt p n)(e:Xi lt p r n):U3 lt (kas_rev p r n) n:=by
 intro i j yg hj;rw[lF (by rw[h.sz];exact hn),lF (by rw[h.sz];exact hn)];by_cases c1:r<=i
 .rw[aL ⟨c1,by lia⟩,aL ⟨by lia,hj⟩];exact e _ _ (by lia) (by lia) (by lia) (by lia)
 rw[aK (by lia)];by_cases c2:r<=j
 .rw[aL ⟨c2,hj⟩];exact d _ _ (by lia) (by lia)
 rw[aK (by lia)];exact d _ _ yg hj
def zJ(hc:U4 N lt cmp s)(o:Ord N lt){Q:Array Nat×Nat×Nat->JX->Prop}:∀(f:Nat)(p:Array Nat)(n q:Nat),rq N p->q+1<=n->n+f<=N->U3 lt p n->Xi lt p (n-(q+1)) n ->
  (∀p' n' q',rq N p'->q'+1<=n'->n'<=n+f->U3 lt p' n'->Xi lt p' (n'-(q'+1)) n'->Q (p',n',q') s)->(kas_desc f p n q).kasWp cmp Q s
 |0,p,n,q,h,h1,hf,d,e,k=>k p n q h h1 (by lia) d e
 |f+1,p,n,q,h,h1,hf,d,e,k=>by
  refine hc _ _ _ (h.lo n (by lia)) (h.lo _ (by lia)) ?_;have more:∀p':Array Nat,rq N p'->U3 lt p' n->lt (p'.getD (n-1) 0) (p'.getD n 0)=false->U3 lt p' (n+1):=by
   intro p' h' d' z i j yg hj;by_cases Y8:j<n
   .exact d' i j yg Y8
   obtain rfl:j=n:=(by lia);by_cases hi:i=j
   .subst hi;exact o.refl (h'.lo i (by lia))
   exact o.zI _ (p'.getD (j-1) 0) _ (h'.lo j (by lia)) (h'.lo _ (by lia)) (h'.lo i (by lia)) z (d' i (j-1) (by lia) (by lia))
  have one:∀p':Array Nat,rq N p'->Xi lt p' (n+1-(0+1)) (n+1):=by intro p' h' i j a1 a2 a3 a4;obtain rfl:i=n:=(by lia);obtain rfl:j=i:=(by lia);exact o.refl (h'.lo j (by lia))
  cases e1:lt (p.getD n 0) (p.getD (n-1) 0)with
  |true =>
   have z:=o.rN _ _ (h.lo n (by lia)) (h.lo _ (by lia)) e1;show(if q>0 then kas_desc f (kas_rev p (n-(q+1)) n) (n+1) 0 else kas_desc f p (n+1) 0).kasWp cmp Q s;by_cases hq:q>0
   .rw[aL hq];have dr:=d.rev h (by lia) (by lia) e;have z2:lt ((kas_rev p (n-(q+1)) n).getD (n-1) 0) ((kas_rev p (n-(q+1)) n).getD n 0)=false:=by rw[lF (by rw[h.sz];lia),lF (by rw[h.sz];lia),aL (by lia),aK (by lia)];exact o.zI _ (p.getD (n-1) 0) _ (h.lo n (by lia)) (h.lo _ (by lia)) (h.lo _ (by lia)) z (e _ _ (by lia) (by lia) (by lia) (by lia))
    exact zJ hc o f _ (n+1) 0 h.rev (by lia) (by lia) (more _ h.rev dr z2) (one _ h.rev) λp' n' q' a b c=>k p' n' q' a b (by lia)
   rw[aK hq];exact zJ hc o f p (n+1) 0 h (by lia) (by lia) (more _ h d z) (one _ h) λp' n' q' a b c=>k p' n' q' a b (by lia)
  |false =>
   refine hc _ _ _ (h.lo _ (by lia)) (h.lo n (by lia)) ?_;cases e2:lt (p.getD (n-1) 0) (p.getD n 0)with
   |true=>exact k p n q h h1 (by lia) d e
   |false =>
    refine zJ hc o f p (n+1) (q+1) h (by lia) (by lia) (more _ h d e2) (λi j a1 a2 a3 a4=>?_) λp' n' q' a b c=>k p' n' q' a b (by lia);have fwd:∀i,n-(q+1)<=i->i<n->lt (p.getD i 0) (p.getD n 0)=false/\lt (p.getD n 0) (p.getD i 0)=false:=by
     intro i b1 b2;exact⟨o.zI _ (p.getD (n-1) 0) _ (h.lo n (by lia)) (h.lo _ (by lia)) (h.lo i (by lia)) e2 (e _ _ b1 b2 (by lia) (by lia)),
      o.zI _ (p.getD (n-1) 0) _ (h.lo i (by lia)) (h.lo _ (by lia)) (h.lo n (by lia)) (e _ _ (by lia) (by lia) b1 b2) e1⟩
    by_cases c1:i<n
    .by_cases c2:j<n
     .exact e i j (by lia) c1 (by lia) c2
     obtain rfl:j=n:=(by lia);exact(fwd i (by lia) c1).1
    obtain rfl:i=n:=(by lia);by_cases c2:j<i
    .exact(fwd j (by lia) c2).2
    obtain rfl:j=i:=(by lia);exact o.refl (h.lo j (by lia))
def HW(hc:U4 N lt cmp s)(o:Ord N lt)(h:rq N p)(h1:1<=n)(hn:n<=N)(d:U3 lt p n){Q:Nat×Array Nat->JX->Prop}(q:∀m p',1<=m->m<=N->rq N p'->JR lt p' m->Q (m,p') s):(kas_tail3 n N p).kasWp cmp Q s:=by unfold kas_tail3;rw[z7];refine Kn hc o h.rev (N-n) n h1 (by lia) (λi j yg hj=>?_) λm a b c _=>q m _ (by lia) (by lia) h.rev c;rw[lF (by rw[h.sz];exact hn),lF (by rw[h.sz];exact hn),aL ⟨bt _,hj⟩,aL ⟨bt _,by lia⟩];exact d _ _ (by lia) (by lia)
def yD(hc:U4 N lt cmp s)(o:Ord N lt)(h:rq N p)(h1:1<=n)(hn:n<N)(e:Xi lt p 0 n)(z:lt (p.getD n 0) (p.getD (n-1) 0)=true){Q:Nat×Array Nat->JX->Prop}(q:∀m p',1<=m->m<=N->rq N p'->JR lt p' m->Q (m,p') s):(kas_descPart n N p).kasWp cmp Q s:=by
 unfold kas_descPart;rw[z7];have z':=o.rN _ _ (h.lo n hn) (h.lo _ (by lia)) z;refine zJ hc o (N-(n+1)) p (n+1) 0 h (by lia) (by lia) (λi j yg hj=>?_) (λi j a1 a2 a3 a4=>?_) λp' n' q' g1 g2 g3 g4 g5=>?_
 .by_cases Y8:j<n
  .exact e i j (by lia) (by lia) (by lia) Y8
  obtain rfl:j=n:=by lia
  by_cases hi:i=j
  .subst hi;exact o.refl (h.lo i (by lia))
  exact o.zI _ (p.getD (j-1) 0) _ (h.lo j (by lia)) (h.lo _ (by lia)) (h.lo i (by lia)) z' (e _ _ (by lia) (by lia) (by lia) (by lia))
 .obtain rfl:i=n:=by lia
  obtain rfl:j=i:=by lia
  exact o.refl (h.lo j (by lia))
 show(if q'>0 then kas_tail3 n' N (kas_rev p' (n'-(q'+1)) n')else kas_tail3 n' N p').kasWp cmp Q s;by_cases hq:q'>0
 .rw[aL hq];exact HW hc o g1.rev (by lia) (by lia) (g4.rev g1 (by lia) (by lia) g5) q
 rw[aK hq];exact HW hc o g1 (by lia) (by lia) g4 q
def Py(hc:U4 N lt cmp s)(o:Ord N lt)(h:rq N p)(hN:1<=N){Q:Nat×Array Nat->JX->Prop}(q:∀m p',1<=m->m<=N->rq N p'->JR lt p' m->Q (m,p') s):(kas_count N p).kasWp cmp Q s:=by
 unfold kas_count;rw[z7];refine Kn hc o h (N-1) 1 (ae _) (by lia) (λi j yg hj=>?_) λm a b c z=>?_
 .obtain rfl:j=0:=by lia
  obtain rfl:i=0:=by lia
  exact o.refl (h.lo 0 (by lia))
 show(if(m==N)=true then KasT.ret (m,p)else if m>1 then .ask (p.getD 0 0) (p.getD (m-1) 0) λc=>if c=true then .ret (m,p)else kas_descPart m N (kas_rev p 0 m)else kas_descPart m N p).kasWp cmp Q s;by_cases hm:m=N
 .rw[aL (by simp[hm])];exact q m p a (by lia) h c
 rw[aK (by simp[hm])];have z':lt (p.getD m 0) (p.getD (m-1) 0)=true:=z.resolve_left (by lia);by_cases h1:m>1
 .rw[aL h1];refine hc _ _ _ (h.lo 0 (by lia)) (h.lo _ (by lia)) ?_;cases e:lt (p.getD 0 0) (p.getD (m-1) 0)with
  |true=>exact q m p a (by lia) h c
  |false =>
   have eq:Xi lt p 0 m:=by intro i j _ i2 _ j2;exact o.zI _ (p.getD (m-1) 0) _ (h.lo j (by lia)) (h.lo _ (by lia)) (h.lo i (by lia)) (c j (m-1) (by lia) (by lia)) (o.zI _ (p.getD 0 0) _ (h.lo _ (by lia)) (h.lo 0 (by lia)) (h.lo i (by lia)) e (c 0 i (by lia) (by lia)))
   refine yD hc o h.rev (by lia) (by lia) (λi j _ i2 _ j2=>?_) ?_ q
   .rw[lF (by rw[h.sz];lia),lF (by rw[h.sz];lia),aL (by lia),aL (by lia)];exact eq _ _ (by lia) (by lia) (by lia) (by lia)
   rw[lF (by rw[h.sz];lia),lF (by rw[h.sz];lia),aK (by lia),aL (by lia)];cases e3:lt (p.getD m 0) (p.getD (0+m-1-(m-1)) 0)with
   |true=>rfl
   |false =>
    have:=o.zI _ (p.getD (0+m-1-(m-1)) 0) _ (h.lo _ (by lia)) (h.lo _ (by lia)) (h.lo m (by lia)) (eq (0+m-1-(m-1)) (m-1) (by lia) (by lia) (by lia) (by lia)) e3;rw[z']at this;cases this
 rw[aK h1];obtain rfl:m=1:=by lia
 refine yD hc o h (by lia) (by lia) (λi j _ i2 _ j2=>?_) z' q;obtain rfl:j=0:=by lia
 obtain rfl:i=0:=by lia
 exact o.refl (h.lo 0 (by lia))
def Ao(hc:U4 N lt cmp s)(o:Ord N lt){p:Array Nat}{k:Nat}(h:rq N p)(hk:k<N)(a:JR lt p k){Q:Nat->JX->Prop}:∀(f l r:Nat),l<=r->r<=k->r-l<=f ->
  (∀i,i<l->lt (p.getD k 0) (p.getD i 0)=false)->(∀i,r<=i->i<k->lt (p.getD i 0) (p.getD k 0)=false) ->
  (∀l,l<=k->(∀i,i<l->lt (p.getD k 0) (p.getD i 0)=false)->(∀i,l<=i->i<k->lt (p.getD i 0) (p.getD k 0)=false)->Q l s)->(kas_place p k f l r).kasWp cmp Q s
 |0,l,r,h1,h2,h3,g1,g2,q=>q l (by lia) g1 (λi a b=>g2 i (by lia) b)
 |f+1,l,r,h1,h2,h3,g1,g2,q=>by
  show(if l ≥ r then KasT.ret l else .ask (p.getD k 0) (p.getD ((l+r)/2) 0) λc=>if c=true then kas_place p k f l ((l+r)/2)else kas_place p k f ((l+r)/2+1) r).kasWp cmp Q s;by_cases hlr:l ≥ r
  .rw[aL hlr];exact q l (by lia) g1 (λi a b=>g2 i (by lia) b)
  rw[aK hlr];refine hc _ _ _ (h.lo k hk) (h.lo _ (by lia)) ?_;cases e:lt (p.getD k 0) (p.getD ((l+r)/2) 0)with
  |true =>
   have e':=o.rN _ _ (h.lo k hk) (h.lo _ (by lia)) e;refine Ao hc o h hk a f l ((l+r)/2) (by lia) (by lia) (by lia) g1 (λi a1 a2=>?_) q;exact o.zI _ (p.getD ((l+r)/2) 0) _ (h.lo k hk) (h.lo _ (by lia)) (h.lo i (by lia)) e' (a _ _ a1 a2)
  |false =>
   refine Ao hc o h hk a f ((l+r)/2+1) r (by lia) h2 (by lia) (λi a1=>?_) g2 q;exact o.zI _ (p.getD ((l+r)/2) 0) _ (h.lo i (by lia)) (h.lo _ (by lia)) (h.lo k hk) (a _ _ (by lia) (by lia)) e
def Pz(hc:U4 N lt cmp s)(o:Ord N lt){Q:Array Nat->JX->Prop}:∀(f:Nat)(p:Array Nat)(k:Nat),rq N p->k+f<=N->JR lt p k ->
  (∀p',rq N p'->JR lt p' (k+f)->Q p' s)->(kas_bin f p k).kasWp cmp Q s
 |0,p,k,h,_,a,q=>q p h a
 |f+1,p,k,h,hf,a,q=>by
  show((kas_place p k k 0 k).bind λl=>kas_bin f (bubble p k (k-l)) (k+1)).kasWp cmp Q s;rw[z7];refine Ao hc o h (by lia) a k 0 k (bt _) (ae _) (by lia) (λi hi=>absurd hi (mY _)) (λi a b=>by lia) λl hl g1 g2=>?_;refine Pz hc o f _ (k+1) h.bub (by lia) (λi j yg hj=>?_) λp' h' a'=>q p' h' (by rw[show k+(f+1)=k+1+f by lia];exact a');have b1:(bubble p k (k-l)).getD l 0=p.getD k 0:=by rw[Km (by rw[h.sz];lia) hl,aL rfl]
  have b2:∀i,l<i->i<=k->(bubble p k (k-l)).getD i 0=p.getD (i-1) 0:=λi x y=>by rw[Km (by rw[h.sz];lia) hl,aK (by lia),aL ⟨x,y⟩]
  have b3:∀i,i<l->(bubble p k (k-l)).getD i 0=p.getD i 0:=λi x=>by rw[Km (by rw[h.sz];lia) hl,aK (by lia),aK (by lia)]
  rcases zj i l with ci|ci|ci
  .rw[b3 i ci];rcases zj j l with cj|cj|cj
   .rw[b3 j cj];exact a _ _ yg (by lia)
   .rw[cj,b1];exact g1 i ci
   rw[b2 j cj (by lia)];exact a _ _ (by lia) (by lia)
  .rw[ci,b1];rcases zj j l with cj|cj|cj
   .lia
   .rw[cj,b1];exact o.refl (h.lo k (by lia))
   rw[b2 j cj (by lia)];exact g2 _ (by lia) (by lia)
  rw[b2 i ci (by lia),b2 j (by lia) (by lia)];exact a _ _ (by lia) (by lia)
def So(hc:U4 N lt cmp s)(o:Ord N lt)(hN:1<=N){Q:Array Nat->JX->Prop}(q:∀p,rq N p->JR lt p N->Q p s):(kas_sort N).kasWp cmp Q s:=by
 unfold kas_sort;rw[z7];refine Py hc o ⟨by simp,λi hi=>by simp[Array.getD,hi],Array.Perm.refl _⟩ hN λm p' h1 hm h a=>?_;show(if m<N then kas_bin (N-max m 1) p' (max m 1)else KasT.ret p').kasWp cmp Q s;have e:max m 1=m:=by lia
 rw[e];by_cases jz:m<N
 .rw[aL jz];exact Pz hc o _ _ _ h (by lia) a λp'' h'' a''=>q p'' h'' (by rw[show m+(N-m)=N by lia]at a'';exact a'')
 rw[aK jz];obtain rfl:m=N:=by lia
 exact q p' h a
end
section
open PySem.W
def è(h h':Heap):Prop:=∀(b:JY)(o:Obj),h.get? b=some o->h'.get? b=some o
structure uG(prog:Ja)(w:Jb)(A:Jd)(h:Heap)(vs:List JZ)(lt:Nat->Nat->Bool)(κ:SortKind):Prop where
 ord:Ord vs.length lt
 kind:∀(s':JX)(E:JZ->JX->Prop)(Q:SortKind->JX->Prop),è h s'.heap->2<=vs.length->Q κ s'->wpAny (model prog w) A (keyKind' vs.toArray) Q E s'
 cmp:∀(s':JX)(i j:Nat)(C:Bool->JX->Prop),è h s'.heap->i<vs.length->j<vs.length->C (lt i j) s'->wpAny (model prog w) A (keyLt' κ (vs.getD i Value.none) (vs.getD j Value.none)) C (λ_ _=>False) s'
def oR(vs:List JZ)(p:Array Nat):List JZ:=p.toList.map λi=>vs.getD i Value.none
def Np(vs:List JZ):oR vs (List.toArray (List.range vs.length))=vs:=by unfold oR;refine oo (by simp) λi h1 h2=>?_;simp[h2]
def Eo{κ:SortKind}{lt:Nat->Nat->Bool}{P:PySem.Fin->JX->Prop}(ho:s.heap.get? a=some (seqObj "list" vs.toArray n))(hg:∀(b:JY)(o:Obj),h.get? b=some o->b≠a/\s.heap.get? b=some o)(S:uG prog w A h vs lt κ)(Ro:vs.length<64)(q:∀p,rq vs.length p->JR lt p vs.length->P (.done (.ret .none)) {s with heap:=sortedHeap s.heap a vs (oR vs p).toArray}):wpAny (model prog w) A (Builtin.«list.sort» ⟨[.ref a],[]⟩) P E s:=by
 rw[list_sort_plain];have ha:a<s.heap.objs.size:=bC ho;have hz:vs.toArray.size=vs.length:=bo ..;refine aG (listItems_at ho rfl (aG (listUpdate_at ho rfl ?_ (by rw[hz,jM];lia) (bt _))));obtain⟨e1,Xj⟩:∃e1,(s.heap.update a (Obj.mapSeq λ_=>#[])).get? a=some (seqObj "list" #[] e1):=⟨_,get?_update_seq ho (λ_=>#[])⟩;refine aG (seqEpoch_at Xj rfl (aG (EC ?_ (by show vs.length<=_;rw[jM];lia))));refine aG (wpAny_newList (gp ?_) (bt _));have ho6:(((s.heap.update a (Obj.mapSeq λ_=>#[])).push (seqObj "tuple" vs.toArray 0)).push (seqObj "list" #[] 0)).get? a=some (seqObj "list" #[] e1):=bG _ (bG _ Xj);have gr:è h (((s.heap.update a (Obj.mapSeq λ_=>#[])).push (seqObj "tuple" vs.toArray 0)).push (seqObj "list" #[] 0)):=λb o e =>
  bG _ (bG _ (((rV s.heap a (Obj.mapSeq λ_=>(#[]:Array JZ))).2 b (hg b o e).1).trans (hg b o e).2))
 show wpAny (model prog w) A _ P E {s with heap:=((s.heap.update a (Obj.mapSeq λ_=>#[])).push (seqObj "tuple" vs.toArray 0)).push (seqObj "list" #[] 0)}
 dsimp only;by_cases h2:vs.toArray.size<2
 .rw[aL h2,aL h2];refine aG (aS ?_);rw[StateT.run_pure];refine aG (aS ?_);dsimp only;refine aG (seqEpoch_at ho6 rfl ?_);have Wb:(arrOf (SortSt.mk' general' (vs.toArray.zip vs.toArray) #[] 7 none)).map (·.2)=vs.toArray:=by show(pairsOf vs).map (·.2)=_;apply Array.toList_inj.mp;rw[Array.toList_map,pairsOf_toList,List.map_snd_zip (ae _)]
  rw[Wb];refine aG (listUpdate_at ho6 rfl ?_ (bt _) (by rw[hz,jM];lia));simp only[bne_self_eq_false,ur,cm];have:=q (List.toArray (List.range vs.length)) ⟨by simp,λi hi=>by simp[Array.getD,hi],Array.Perm.refl _⟩ (λi j yg hj=>by obtain rfl:j=i:=(by lia);exact S.ord.refl (by simp[Array.getD,hj]))
  rw[Np]at this;exact aS this
 rw[aK h2,aK h2];have Gf:2<=vs.length:=by lia
 refine aG (S.kind _ E _ gr Gf ?_);have est:SortSt.mk' κ (vs.toArray.zip vs.toArray) #[] 7 none=kas_st κ (pairsOf vs) (List.toArray (List.range vs.length)):=by have e:=kas_range (pairsOf vs);rw[pairsOf_size]at e;show SortSt.mk' κ (pairsOf vs) #[] 7 none=SortSt.mk' κ _ #[] 7 none;rw[e]
 have run:=kas_runs (prog:=prog) (w:=w) (A:=A) (E:=E) (κ:=κ) (it:=pairsOf vs) (s:={s with heap:=((s.heap.update a (Obj.mapSeq λ_=>#[])).push (seqObj "tuple" vs.toArray 0)).push (seqObj "list" #[] 0)})
  (Q:=λ_ tq s'=>s'={s with heap:=((s.heap.update a (Obj.mapSeq λ_=>#[])).push (seqObj "tuple" vs.toArray 0)).push (seqObj "list" #[] 0)}/\∃p,rq vs.length p/\JR lt p vs.length/\arrOf tq=p.map (kas_item (pairsOf vs))/\failedOf tq=none)
  (G:=λp s'=>s'={s with heap:=((s.heap.update a (Obj.mapSeq λ_=>#[])).push (seqObj "tuple" vs.toArray 0)).push (seqObj "list" #[] 0)}/\rq vs.length p/\JR lt p vs.length)
  Gf Ro (λp' tq s' _ a2 a3 a4=>⟨a4.1,p',a4.2.1,a4.2.2,a2,a3⟩) (So (λi j C hi hj hC=>by rw[<-kas_ask_eq];exact S.cmp _ i j C gr hi hj hC) S.ord (by lia) λp hp ap=>⟨rfl,hp,ap⟩)
 rw[<-est]at run;refine aG (gW run ?_ λ_ _ e=>e);rintro⟨⟨⟩,tq⟩ s' ⟨rfl,p,hp,ap,har,hf⟩;dsimp only;have Wb:(arrOf tq).map (·.2)=(oR vs p).toArray:=by apply Array.toList_inj.mp;rw[har,Array.map_map,Array.toList_map];exact iY λi _=>by show(kas_item (pairsOf vs) i).2=_;rw[kas_item_eq]
 have hsz:(oR vs p).toArray.size=vs.length:=by unfold oR;rw[bo,aJ,fq,hp.sz]
 rw[Wb];refine aG (seqEpoch_at ho6 rfl ?_);refine aG (listUpdate_at ho6 rfl ?_ (bt _) (iA (AA hsz) (by rw[jM];lia)));rw[hf];simp only[bne_self_eq_false,ur,cm];exact aS (q p hp ap)
def uH{x:JZ}(G:List JZ->Drawn->Prop)(LT:List JZ->Nat->Nat->Bool)(Ro:∀vs d,G vs d->vs.length<64)(col:∀R:List JZ->JX->Prop,(∀(vs:List JZ)(h':Heap)(tk:Tok)(d:Drawn),G vs d->è s.heap h'->s.heap.objs.size<=h'.objs.size->R vs {s with heap:=h',toks:=tk,drawn:=d})->wpAny (model prog w) A.in1 (collect x) R E s)(S:∀vs d,G vs d->∃κ,uG prog w A.in1.in1 s.heap vs (LT vs) κ)(q:∀(vs:List JZ)(p:Array Nat)(h':Heap)(tk:Tok)(d:Drawn)(e:Nat)(l:JY),G vs d->rq vs.length p->JR (LT vs) p vs.length->è s.heap h'->s.heap.objs.size<=l->h'.get? l=some (seqObj "list" (oR vs p).toArray e)->Q (.ref l) {s with heap:=h',toks:=tk,drawn:=d}):
  wpAny (model prog w) A (call (.builtin "sorted") [x]) Q E s:=by
 refine Calls.call_function_entry kind_sorted plain_sorted entry_sorted (args_sorted1 _) ?_;unfold Builtin.«sorted»;refine aG (m:=checkCount "sorted" 1 1 _) (aS (aG (col _ λvs h' tk d hG g hz=>?_)));have hv:=Ro vs d hG;obtain⟨κ,S⟩:=S vs d hG;refine aG (wpAny_newList ?_ (by rw[jM];lia));have X5:(h'.push (seqObj "list" vs.toArray 0)).get? h'.objs.size=some (seqObj "list" vs.toArray 0):=bK _ rfl;refine(show wpAny _ _ _ _ _ {s with heap:=h'.push (seqObj "list" vs.toArray 0),toks:=tk,drawn:=d}from ?_);refine aG (gp (jo slot_list_sort ⟨_,X5,rfl⟩ entry_list_sort (Eo (h:=s.heap) X5 (λb o e=>⟨λz=>absurd (bC e) (by rw[z];exact AG.mpr hz),bG _ (g b o e)⟩) S hv λp hp ap=>⟨_,rfl,?_⟩) (args_list_sort _)))
 obtain⟨e,he⟩:∃e,(sortedHeap (h'.push (seqObj "list" vs.toArray 0)) h'.objs.size vs (oR vs p).toArray).get? h'.objs.size=some (seqObj "list" (oR vs p).toArray e):=by unfold sortedHeap;obtain⟨e1,z1⟩:∃e1,((h'.push (seqObj "list" vs.toArray 0)).update h'.objs.size (Obj.mapSeq λ_=>#[])).get? h'.objs.size=some (seqObj "list" #[] e1):=⟨_,get?_update_seq X5 (λ_=>#[])⟩;exact⟨_,get?_update_seq (bG _ (bG _ z1)) _⟩
 refine aS ⟨_,rfl,q vs p _ tk d e _ hG hp ap (λb o z=>?_) hz he⟩;have nb:b≠h'.objs.size:=λy=>absurd (bC z) (by rw[y];exact AG.mpr hz);unfold sortedHeap;rw[(rV _ h'.objs.size (Obj.mapSeq λ_=>(oR vs p).toArray)).2 b nb];refine bG _ (bG _ ?_);rw[(rV _ h'.objs.size (Obj.mapSeq λ_=>(#[]:Array JZ))).2 b nb];exact bG _ (g b o z)
def Nq{x:JZ}{κ:SortKind}{lt:Nat->Nat->Bool}(Ro:vs.length<64)(col:∀R:List JZ->JX->Prop,(∀(h':Heap)(tk:Tok),è s.heap h'->s.heap.objs.size<=h'.objs.size->R vs {s with heap:=h',toks:=tk})->wpAny (model prog w) A.in1 (collect x) R E s)(S:uG prog w A.in1.in1 s.heap vs lt κ)(q:∀(p:Array Nat)(h':Heap)(tk:Tok)(e:Nat)(l:JY),rq vs.length p->JR lt p vs.length->è s.heap h'->s.heap.objs.size<=l->h'.get? l=some (seqObj "list" (oR vs p).toArray e)->Q (.ref l) {s with heap:=h',toks:=tk}):
  wpAny (model prog w) A (call (.builtin "sorted") [x]) Q E s :=
 uH (λv d=>v=vs/\d=s.drawn) (λ_=>lt) (λv d g=>g.1▸Ro) (λR r=>col R λh' tk=>r vs h' tk _ ⟨rfl,rfl⟩) (λv d g=>⟨κ,g.1▸S⟩) λv p h' tk d e l g=>by obtain⟨rfl,rfl⟩:=g;exact q p h' tk e l
end
section
open PySem.W
def HX{T:String}{Q:List JZ->JX->Prop}(ho:s.heap.get? l=some o)(hc:o.cls=.type T)(hT:T="list"\/T="tuple")(hd:o.data=.seq vs.toArray n)(hz:vs.length<=sizeLine)(q:Q vs {s with heap:=(s.heap.push (seqObj "list" #[] 0)).update s.heap.objs.size (Obj.mapSeq (·++vs.toArray))}):wpAny (model prog w) A (collect (.ref l)) Q E s:=by
 unfold collect;refine aG (z9 (oN entry_proto_collect' ?_));show wpAny _ _ (do again (.builtin "list.__iadd__" ⟨[<-newList [],.ref l],[]⟩)) _ _ s
 refine aG (wpAny_newList (aS ⟨Code.quiet_builtin _ (by decide +kernel),oN entry_list_iadd' ?_⟩));show wpAny _ _ (Builtin.List.listExtendWith (.ref s.heap.objs.size) (.ref l) (.ref s.heap.objs.size)) _ _ {s with heap:=s.heap.push (seqObj "list" #[] 0)};unfold Builtin.List.listExtendWith;have hp:(s.heap.push (seqObj "list" #[] 0)).get? l=some o:=bG _ ho;have hn:(s.heap.push (seqObj "list" #[] 0)).get? s.heap.objs.size=some (seqObj "list" #[] 0):=bK _ rfl;refine aG (tX (T:=T) ⟨o,hp,hc⟩ ?_);rw[aL (by rcases hT with rfl|rfl<;>simp[show(Value.type "list"==Value.type "list")=true from rfl,show(Value.type "tuple"==Value.type "tuple")=true from rfl])];refine aG (listItems_at hp hd (aG (listItems_at hn rfl ?_)));rw[aK (by simp)];refine aG (listUpdate_at hn rfl ?_ (bt _) (by show(#[]++vs.toArray).size<=sizeLine+1;rw[Array.size_append,bo];simp;lia));refine aS ?_;show wpAny (model prog w) A (do
   let o <- load s.heap.objs.size
   match o.data with
   |.seq xs _=>pure xs.toList
   |_=>unsupported "internal:collect") Q E {s with heap:=(s.heap.push (seqObj "list" #[] 0)).update s.heap.objs.size (Obj.mapSeq (·++vs.toArray))}
 refine aG (wo (get?_update_seq hn _) ?_);show wpAny _ _ (pure ((#[]:Array JZ)++vs.toArray).toList) Q E _;rw[show((#[]:Array JZ)++vs.toArray).toList=vs by simp];exact aS q
end
inductive U5(ds:List PyData):Prop where
 |ints (h:∀d∈ds,∃i,d=.int i)
 |strs (h:∀d∈ds,∃x,d=.str x)
 |rows (h:∀d∈ds,∃i r,d=.tuple (.int i::r))
structure yh(ds:List PyData):Prop where
 kd:U5 ds
 ok:∀d∈ds,∀e∈ds,B3 d e=true
 rN:∀d∈ds,∀e∈ds,cZ d e=true->cZ e d=false
 zI:∀d∈ds,∀e∈ds,∀f∈ds,cZ e d=false->cZ f e=false->cZ f d=false
def getD_mem{α:Type}{l:List α}{z:α}(h:i<l.length):l.getD i z∈l:=by rw[lr,cT h];exact jJ h
section
open PySem.W
def yE{s:JX}{C:Bool->JX->Prop}{xs ys:List PyData}{z:Bool}:∀(us vs:List JZ)(i j:Nat)(hl:us.length+j=xs.length)(hm:vs.length+j=ys.length)(yg:j=i)(_:∀(k:Nat) (h1:k<us.length) (h2:k<vs.length),SeqAt.EqAt A s us[k] vs[k] (SeqAt.pairEq xs ys (k+j)))(_:∀(k:Nat) (h1:k<us.length) (h2:k<vs.length),SeqAt.pairEq xs ys (k+j)=false->∀Q:Bool->JX->Prop,Q (qj xs ys (k+j)) s->wpAny (model prog w) A (oneLt' (true&&(k+j==0)) us[k] vs[k]) Q (λ_ _=>False) s)(_:C (nF (SeqAt.pairEq xs ys) (qj xs ys) z ((List.range (min us.length vs.length)).map (·+j))) s),KatLex prog w A true z C (us.zip vs) i s
 |[],vs,i,j,hl,hm,yg,he,hg,q=>by simpa[nF,KatLex]using q
 |_::_,[],i,j,hl,hm,yg,he,hg,q=>by simpa[nF,KatLex]using q
 |u::us,v::vs,i,j,hl,hm,yg,he,hg,q=>by
  subst yg;rw[List.zip_cons_cons];refine kat_cons (he 0 (Dq _) (Dq _) prog w _ _ ?_);have e:min (u::us).length (v::vs).length=min us.length vs.length+1:=by simp only[cQ];lia
  rw[e,List.range_succ_eq_map,bz,nF]at q;refine kat_go (λc=>kat_yes ?_) (λc=>kat_no ?_)
  .rw[aL c]at q;refine yE (xs:=xs) (ys:=ys) us vs (j+1) (j+1) (by simp at hl;lia) (by simp at hm;lia) rfl (λk h1 h2=>?_) (λk h1 h2 c2 Q hQ=>?_) ?_
   .have:=he (k+1) (Dr h1) (Dr h2);rw[show k+1+j=k+(j+1) by lia]at this;exact this
   .have:=hg (k+1) (Dr h1) (Dr h2);rw[show k+1+j=k+(j+1) by lia]at this;exact this c2 Q hQ
   rw[bB]at q;have e2:((λx=>x+j)∘Nat.succ)=λx=>x+(j+1):=(by funext x;show x+1+j=x+(j+1);lia);rw[e2]at q;exact q
  rw[aK (by rw[c];decide)]at q;have:=hg 0 (Dq _) (Dq _) c C q;rw[Nat.zero_add]at this;exact this
def P0{p q:JZ}{Q:Bool->JX->Prop}(h:j6 A s p q b)(k:Q b s):wpAny (model prog w) A (oneLt' false p q) Q E s:=by rw[oneLt'_eq];simp only[ur,cm];exact aG (h prog w _ _ (lu k))
def pC(hl:vs.length=ds.length)(hr:∀(j:Nat)(hj:j<vs.length),∃as,Reads h vs[j] (ds.getD j .none) as)(hy:∀d∈ds,d.canLay0=true)(hp:∀d∈ds,d.depth<=8)(O:yh ds)(hu:A.units+12<cLine):∃κ,uG prog w A h vs (λi j=>cZ (ds.getD i .none) (ds.getD j .none)) κ:=by
 have ord:Ord vs.length (λi j=>cZ (ds.getD i .none) (ds.getD j .none)):=⟨λx y hx hy'=>O.rN _ (getD_mem (by lia)) _ (getD_mem (by lia)),λx y z hx hy' hz=>O.zI _ (getD_mem (by lia)) _ (getD_mem (by lia)) _ (getD_mem (by lia))⟩;have gv:∀(i:Nat)(hi:i<vs.length),vs.getD i Value.none=vs[i]:=λi hi=>by simp[hi]
 rcases O.kd with hk|hk|hk
 .refine⟨oneType',ord,λs' E Q g h2 q=>kas_kind (T:=Value.type "int") h2 (λv hv=>?_) (by decide) (by decide) q,λs' i j C g hi hj q=>?_⟩
  .obtain⟨j,hj,rfl⟩:=eU hv;obtain⟨as,r⟩:=hr j hj;obtain⟨k,e⟩:=hk _ (getD_mem (i:=j) (z:=.none) (by lia));rw[e]at r;cases r1:vs[j]<;>rw[r1]at r<;>cases r;exact Looks.of_pure rfl
  rw[gv i hi,gv j hj];obtain⟨as,r⟩:=hr i hi;obtain⟨bs,t⟩:=hr j hj;obtain⟨k,e⟩:=hk _ (getD_mem (i:=i) (z:=.none) (by lia));obtain⟨m,f⟩:=hk _ (getD_mem (i:=j) (z:=.none) (by lia));rw[e]at r;rw[f]at t;simp only[e,f,cZ]at q;generalize vs[i]=u1 at r ⊢;generalize vs[j]=u2 at t ⊢;cases r;cases t;exact kat_lt_int q
 .refine⟨oneType',ord,λs' E Q g h2 q=>kas_kind (T:=Value.type "str") h2 (λv hv=>?_) (by decide) (by decide) q,λs' i j C g hi hj q=>?_⟩
  .obtain⟨j,hj,rfl⟩:=eU hv;obtain⟨as,r⟩:=hr j hj;obtain⟨k,e⟩:=hk _ (getD_mem (i:=j) (z:=.none) (by lia));rw[e]at r;cases r1:vs[j]<;>rw[r1]at r<;>cases r;exact Looks.of_pure rfl
  rw[gv i hi,gv j hj];obtain⟨as,r⟩:=hr i hi;obtain⟨bs,t⟩:=hr j hj;obtain⟨k,e⟩:=hk _ (getD_mem (i:=i) (z:=.none) (by lia));obtain⟨m,f⟩:=hk _ (getD_mem (i:=j) (z:=.none) (by lia));rw[e]at r;rw[f]at t;simp only[e,f,cZ]at q;generalize vs[i]=u1 at r ⊢;generalize vs[j]=u2 at t ⊢;cases r;cases t;exact kas_lt_str q
 have tup:∀(j:Nat)(hj:j<vs.length),∃(a:JY)(o:Obj)(xs:Array JZ)(n:Nat)(k:Int)(t:Tok)(r:List PyData)(as:List JY),vs[j]=.ref a/\h.get? a=some o/\o.cls=.type "tuple"/\o.data=.seq xs n/\ds.getD j .none=.tuple (.int k::r)/\ReadsAll h xs.toList (.int k::r) as/\xs[0]?=some (.int k t):=by
  intro j hj;obtain⟨as,r⟩:=hr j hj;obtain⟨k,rr,e⟩:=hk _ (getD_mem (i:=j) (z:=.none) (by lia));rw[e]at r;generalize hv:vs[j]=u1 at r;cases r with
  |@tuple a o xs n _ _ h1 h2 h3 h4 =>
   have h0:∃t,xs[0]?=some (.int k t):=by
    generalize hx:xs.toList=l at h4;cases h4 with
    |cons r1 r2 =>
     cases r1 with
     |int _ t=>exact⟨t,by rw[<-DZ,hx];rfl⟩
   obtain⟨t,ht⟩:=h0;exact⟨a,o,xs,n,k,t,rr,_,rfl,h1,h2,h3,e,h4,ht⟩
 have Wc:∀(l:List JZ)(_:∀v∈l,∃(a:JY) (o:Obj) (xs:Array JZ) (n:Nat) (k:Int) (t:Tok),v=.ref a/\h.get? a=some o/\o.cls=.type "tuple"/\o.data=.seq xs n/\xs[0]?=some (.int k t))(h':Heap),è h h'->∃fs,KatTups h' l fs/\fs.length=l.length/\∀f∈fs,∃k t,f=Value.int k t:=by
  intro l
  induction l with
  |nil=>intro _ h' _;exact⟨[],trivial,rfl,λf hf=>absurd hf (by simp)⟩
  |cons v l ih =>
   intro hv h' g;obtain⟨fs,k1,k2,k3⟩:=ih (λv rf=>hv v (bU _ rf)) h' g;obtain⟨a,o,xs,n,k,t,rfl,h1,h2,h3,h4⟩:=hv v bp;exact⟨.int k t::fs,.cons (g a o h1) h2 h3 h4 k1,by simp[k2],λf hf=>(au.mp hf).elim (λe=>⟨k,t,e⟩) (k3 f)⟩
 refine⟨tuples' (Value.type "int" != Value.type "tuple"),ord,λs' E Q g h2 q=>?_,λs' i j C g hi hj q=>?_⟩
 .obtain⟨fs,k1,k2,k3⟩:=Wc vs (λv hv=>by obtain⟨j,hj,rfl⟩:=eU hv;obtain⟨a,o,xs,n,k,t,r,as,e1,e2,e3,e4,e5,e6,e7⟩:=tup j hj;exact⟨a,o,xs,n,k,t,e1,e2,e3,e4,e7⟩) s'.heap g
  exact kat_kind (T:=Value.type "int") k1 (by lia) (λv hv=>by obtain⟨k,t,rfl⟩:=k3 v hv;exact Looks.of_pure rfl) (by decide) q
 rw[gv i hi,gv j hj];obtain⟨a,o,xs,n,k,t,r,as,e1,e2,e3,e4,e5,e6,e7⟩:=tup i hi;obtain⟨a',o',Xk,n',k',t',r',Sq,f1,f2,f3,f4,f5,f6,f7⟩:=tup j hj;have mi:=getD_mem (l:=ds) (i:=i) (z:=.none) (by lia);have mj:=getD_mem (l:=ds) (i:=j) (z:=.none) (by lia);have di:=hp _ mi;have dj:=hp _ mj;have yi:=hy _ mi;have yj:=hy _ mj;have ho:=O.ok _ mi _ mj;rw[e5]at di yi;rw[f5]at dj yj;rw[e5,f5]at ho;simp only[e5,f5]at q;have di:PyData.depthAll (.int k::r)<=7:=aAp di;have dj:PyData.depthAll (.int k'::r')<=7:=aAp dj;have yi:PyData.canLayAll0 (.int k::r)=true:=yi;have yj:PyData.canLayAll0 (.int k'::r')=true:=yj;have ho:El (.int k::r) (.int k'::r')=true:=by simpa[B3]using ho
 rw[e1,f1];have g6:=ReadsAll.keeps g e6;have g6':=ReadsAll.keeps g f6;have l1:=mG e6;have l2:=mG f6;refine kat_lt (g a o e2) e4 (g a' o' f2) f4 ?_;have sz:decide (xs.size<Xk.size)=decide ((PyData.int k::r).length<(PyData.int k'::r').length):=by rw[<-l1,<-l2];simp
 rw[sz];refine yE (xs:=.int k::r) (ys:=.int k'::r') xs.toList Xk.toList 0 0 (by lia) (by lia) rfl (λm h1 h2=>?_) (λm h1 h2 c Q hQ=>?_) ?_
 .exact SeqAt.eqAt_readsAll _ _ A s' xs.toList Xk.toList _ _ g6 g6' yi yj (by lia) m h1 h2
 .by_cases hm:m=0
  .subst hm;have z1:xs.toList[0]=.int k t:=by have:xs.toList[0]?=some (.int k t):=(by rw[DZ];exact e7);rw[cT h1]at this;exact bR this
   have z2:Xk.toList[0]=.int k' t':=by have:Xk.toList[0]?=some (.int k' t'):=(by rw[DZ];exact f7);rw[cT h2]at this;exact bR this
   rw[z1,z2];exact oneLt_int (by simpa[qj,cZ]using hQ)
  have eb:(true&&(m+0==0))=false:=by simp[hm]
  rw[eb];obtain⟨as2,q1⟩:=iq g6 m h1;obtain⟨bs2,q2⟩:=iq g6' m h2;exact P0 (Px 7 _ _ A s' _ _ as2 bs2 (iA (Kl _ m (by lia)) di) q1 q2 (An _ yi m (by lia)) (An _ yj m (by lia)) (En _ _ ho m (by lia) (by lia)) (by lia)) hQ
 have e0:((List.range (min xs.toList.length Xk.toList.length)).map (·+0))=List.range (min (PyData.int k::r).length (PyData.int k'::r').length):=by rw[l1,l2];simp
 rw[e0,Em]
 simpa[cZ]using q
end
section
variable{α:Type}
def pE{lt:Nat->Nat->Bool}(h:rq n p)(a:JR lt p n)(l:List α)(hl:l.length=n)(z:α)(R:α->α->Prop)(hR:∀i j,i<n->j<n->lt j i=false->R (l.getD i z) (l.getD j z)):
  (p.toList.map λi=>l.getD i z).Perm l/\(p.toList.map λi=>l.getD i z).Pairwise R:=by
 constructor
 .have e:(List.range n).map (λi=>l.getD i z)=l:=by refine oo (by simp[hl]) λi h1 h2=>?_;simp[h2]
  have:=(DR.mp h.pm).map (λi=>l.getD i z);rw[show(List.toArray (List.range n)).toList=List.range n from rfl,e]at this;exact this
 rw[gm,zS];intro i j hi hj yg;have hz:p.toList.length=n:=by rw[fq,h.sz]
 have gi:p.toList[i]=p.getD i 0:=by simp[Array.getD,show i<p.size by rw[h.sz];lia]
 have gj:p.toList[j]=p.getD j 0:=by simp[Array.getD,show j<p.size by rw[h.sz];lia]
 rw[gi,gj];exact hR _ _ (h.lo i (by lia)) (h.lo j (by lia)) (a i j (by lia) (by lia))
end
def aCg(K:Ni):List V->Hp->VK->Prop:=λxs H Q=>∃(b:Bool)(p:JY)(zs:List (V×PyData)),xs=[.ref p]/\oQ b K H p (zs.map (·.1))/\zs.length<64/\(∀z∈zs,ar K H 8 z.1 z.2)/\yh (zs.map (·.2)) /\
 ∀(ys:List (V×PyData))(q:JY),ys.Perm zs->ys.Pairwise (λx y=>cZ y.2 x.2=false)->H q=none->Q (.ref q) (ü H q (.lst (ys.map (·.1))))
def aq.pick{xs:List V}{us:List JZ}(r:aq xs us):∀(l:List Nat),(∀i∈l,i<xs.length)->aq (l.map λi=>xs.getD i .cX) (l.map λi=>us.getD i Value.none)
 |[],_=>.nil
 |i::l,h=>by
  have hi:=h i bp;obtain⟨u,h1,h2⟩:=r.get (cT hi);refine .cons ?_ (aq.pick r l λj hj=>h j (bU _ hj));have e1:xs.getD i .cX=xs[i]:=by simp[hi]
  have e2:us.getD i Value.none=u:=by rw[lr,h1];rfl
  show æ (xs.getD i .cX) (us.getD i Value.none);rw[e1,e2];exact h2
def kf(K:Ni)(hu:X.A.units+16<cLine)(hK:X.K=K:=by rfl):dt X (.builtin "sorted") (aCg K):=by
 subst hK;intro bv s Z H xs us Q I r h;obtain⟨b,p,zs,rfl,hq,Ro,hd,O,q⟩:=h;obtain⟨u,rfl,rx⟩:=é r;cases rx;obtain⟨T,o,aa,n,hT,ho,hc,Sh,r1⟩:∃(T:String)(o:Obj)(aa:List JZ)(n:Nat),(T="list"\/T="tuple")/\s.heap.get? p=some o/\o.cls=.type T/\o.data=.seq aa.toArray n/\aq (zs.map (·.1)) aa:=by
  rcases hq.or with hq|hq
  .obtain⟨aa,r1,⟨o,n,ho,hc,_,hd⟩,_⟩:=I.list hq;exact⟨"list",o,aa,n,.inl rfl,ho,hc,hd,r1⟩
  obtain⟨aa,r1,⟨o,ho,hc,n,hd⟩,_⟩:=I.tuple hq;exact⟨"tuple",o,aa,n,.inr rfl,ho,hc,hd,r1⟩
 have lc:aa.length=zs.length:=by rw[<-r1.length,aJ]
 obtain⟨κ,S⟩:=pC (prog:=X.prog) (w:=X.w) (A:=X.A.in1.in1) (h:=s.heap) (vs:=aa) (ds:=zs.map (·.2)) (by rw[lc,aJ]) (λj hj=>by obtain⟨x,h1,h2⟩:=r1.back (cT hj);have hz:j<zs.length:=(by lia);have e1:x=zs[j].1:=(by simpa[hz]using h1.symm);have e2:(zs.map (·.2)).getD j .none=zs[j].2:=(by simp[hz]);rw[e2];exact(e1▸hd _ (jJ hz)).reads I h2)
  (λd Bs=>by obtain⟨z,hz,rfl⟩:=ao.mp Bs;exact(hd z hz).lay) (λd Bs=>by obtain⟨z,hz,rfl⟩:=ao.mp Bs;exact(hd z hz).dep) O (by show X.A.units+1+1+12<cLine;lia)
 refine Nq (by lia) (λR k=>HX ho hc hT Sh (by rw[jM];lia) (k _ s.toks (λb o e=>?_) ?_)) S λpm h' tk e l hp ap g hz hl=>?_
 .have nb:b≠s.heap.objs.size:=λy=>absurd (bC e) (by rw[y];exact gR _);rw[(rV _ s.heap.objs.size (Obj.mapSeq (·++aa.toArray))).2 b nb];exact bG _ e
 .rw[Heap.size_update,size_push'];exact gq _
 obtain⟨z1,z2⟩:=pE hp ap zs lc.symm (V.cX,PyData.none) (λx y=>cZ y.2 x.2=false) (λi j hi hj h0=>by
  have oW:i<zs.length:=by lia
  have Ol:j<zs.length:=by lia
  simpa[oW,Ol]using h0)
 have ev:(pm.toList.map λi=>(zs.map (·.1)).getD i V.cX)=(pm.toList.map λi=>zs.getD i (V.cX,PyData.none)).map (·.1):=by
  rw[bB];refine iY λi hi=>?_;show _=(zs.getD i (V.cX,PyData.none)).1;by_cases hz:i<zs.length
  .simp[hz]
  simp[Nat.le_of_not_lt hz]
 have uk:∀i∈pm.toList,i<(zs.map (·.1)).length:=by
  intro i hi;have:=(DR.mp hp.pm).mem_iff.mp hi;have:i<aa.length:=by simpa using this
  rw[aJ];lia
 have rv:=r1.pick pm.toList uk;rw[ev]at rv;refine⟨.ref l,_,I.laid (t':=tk) (o:=.lst ((pm.toList.map λi=>zs.getD i (V.cX,PyData.none)).map (·.1))) (λb o eb=>g b o eb) hz ⟨by rw[aJ,aJ,fq,hp.sz,jM];lia,_,e,rv,hl⟩,rfl,q _ _ z1 z2 (I.cI.fresh hz)⟩
def aCh:R2:=λx y H Q=>∃a b:Str,x=.str a/\y=.str b/\Q (.bl (!decide (b.cps.toList<a.cps.toList))) H
def P1:kY X (compareOp .LtE) aCh:=by intro bv s Z H x y v u Q I rx ry h;obtain⟨a,b,rfl,rfl,q⟩:=h;obtain⟨t,rfl⟩:=(show ∃t,v=Value.str a t from rx);obtain⟨t2,rfl⟩:=(show ∃t,u=Value.str b t from ry);exact P.le_str ⟨.bl _,H,I,rfl,q⟩
def Sr(K:Ni){es:List Expr}{t:Vk}(hc:X.calm=true)(h:YB X es t)(hK:X.K=K:=by rfl)(hn:(assignEach es X.env).length=n:=by rfl)(Bt:(assignEach es X.env).findIdx? (·.1)=none:=by rfl):PG X (.Tuple es k pos) (NM K n t):=by subst hK;exact wq hc h hn Bt
section
open PySem.W
variable{T:String}{r d:JY}{P:Nat->JZ->Prop}
def HY(K:KdlSrc prog w T r d n P OK)(hh:A.handled=none)(cI:OK s.heap)(hn:n<=sizeLine)(q:∀(g:Heap)(tk:Nat)(ÿ:Array JZ),è s.heap g->s.heap.objs.size<=g.objs.size->ItemsOf P ÿ n->R ÿ.toList {s with heap:=g,toks:=tk}):wpAny (model prog w) A (collect (.ref r)) R E s:=by
 have lt:=K.there _ cI;unfold collect;refine aG (z9 (oN entry_proto_collect' ?_));rw[um PySem.F.plain_proto_collect _];show wpAny _ A.in1 (newList [] >>= λx=>again (.builtin "list.__iadd__" ⟨[x,.ref r],[]⟩)) _ _ s;refine aG (jI (aS ⟨lA DU _,oN entry_list_iadd' ?_⟩));rw[um DU _];have e1:(s.heap.push {cls:=.type "list",data:=.seq ([]:List JZ).toArray}).get? s.heap.objs.size=some {cls:=.type "list",data:=.seq #[]}:=bK _ rfl;show wpAny _ A.in1 (Builtin.List.listExtendWith (.ref s.heap.objs.size) (.ref r) (.ref s.heap.objs.size)) _ _ _;have z:=kdl_extend (A:=A) (s:={s with heap:=s.heap.push {cls:=.type "list",data:=.seq ([]:List JZ).toArray}})
  (R:=λ(f:Result)(t:JX)=>∃(g:Heap)(tk:Nat)(ÿ:Array JZ)(c:Nat),f=.ok (.ret (.ref s.heap.objs.size))/\t={s with heap:=g,toks:=tk}/\è s.heap g/\g.get? s.heap.objs.size=some {cls:=.type "list",dict:=none,data:=.seq ÿ c,slots:=#[]}/\ItemsOf P ÿ n)
  K hh (K.keep _ _ cI λb _ o e=>bG _ e) s.heap.objs.size (ju lt.1) (ju lt.2) (.ref s.heap.objs.size) 0 e1
  (λg tk ÿ c hk hS ha=>⟨g,tk,ÿ,c,rfl,rfl,λb o e=>hk b o (cg (bC e)) (bG _ e),hS,ha⟩) hn
 refine gW z (λfin t x=>?_) λe t x=>?_
 .cases fin with
  |done f =>
   obtain⟨g,tk,ÿ,c,e,rfl,hk,hS,ha⟩:=x;cases e;show wpAny _ A (load s.heap.objs.size >>= _) _ _ _;exact aG (wo hS (aS (q g tk ÿ hk (gT (bC hS)) ha)))
  |again c₁ =>
   refine⟨x.1,jv x.2 λf t2 y=>?_⟩;obtain⟨g,tk,ÿ,c,rfl,rfl,hk,hS,ha⟩:=y;show wpAny _ A (load s.heap.objs.size >>= _) _ _ _;exact aG (wo hS (aS (q g tk ÿ hk (gT (bC hS)) ha)))
 obtain⟨_,_,_,_,y,_⟩:=x;cases y
def Ko{x:JZ}{lt:Nat->Nat->Bool}(G:List JZ->Prop)(Ro:∀vs,G vs->vs.length<64)(col:∀R:List JZ->JX->Prop,(∀(vs:List JZ)(h':Heap)(tk:Tok),G vs->è s.heap h'->s.heap.objs.size<=h'.objs.size->R vs {s with heap:=h',toks:=tk})->wpAny (model prog w) A.in1 (collect x) R E s)(S:∀vs,G vs->∃κ,uG prog w A.in1.in1 s.heap vs lt κ)(q:∀(vs:List JZ)(p:Array Nat)(h':Heap)(tk:Tok)(e:Nat)(l:JY),G vs->rq vs.length p->JR lt p vs.length->è s.heap h'->s.heap.objs.size<=l->h'.get? l=some (seqObj "list" (oR vs p).toArray e)->Q (.ref l) {s with heap:=h',toks:=tk}):
  wpAny (model prog w) A (call (.builtin "sorted") [x]) Q E s :=
 uH (λv d=>G v/\d=s.drawn) (λ_=>lt) (λv d g=>Ro v g.1) (λR r=>col R λv h' tk g=>r v h' tk _ ⟨g,rfl⟩) (λv d g=>S v g.1) λv p h' tk d e l g=>by obtain⟨g,rfl⟩:=g;exact q v p h' tk e l g
end
def MY(ns:List Int):yh (ns.map PyData.int)where
 kd:=.ints λd hd=>by obtain⟨n,_,rfl⟩:=ao.mp hd;exact⟨n,rfl⟩
 ok:=λd hd e he=>by obtain⟨n,_,rfl⟩:=ao.mp hd;obtain⟨m,_,rfl⟩:=ao.mp he;simp[B3]
 rN:=λd hd e he h=>by obtain⟨n,_,rfl⟩:=ao.mp hd;obtain⟨m,_,rfl⟩:=ao.mp he;simp only[cZ,tN,zU]at h ⊢;lia
 zI:=λd hd e he f hf h1 h2=>by obtain⟨n,_,rfl⟩:=ao.mp hd;obtain⟨m,_,rfl⟩:=ao.mp he;obtain⟨k,_,rfl⟩:=ao.mp hf;simp only[cZ,zU]at h1 h2 ⊢;lia
def C7:∀{ns:List Int}{us:List JZ},us.length=ns.length->(∀(i:Nat)(u:JZ),us[i]?=some u->∃t,u=Value.int (ns.getD i 0) t)->aq (ns.map V.int) us
 |[],[],_,_=>.nil
 |[],_::_,h,_=>by cases h
 |_::_,[],h,_=>by cases h
 |n::ns,u::us,h,q=>by
  refine .cons (q 0 u rfl) (C7 (Nat.succ.inj h) λi v e=>?_);have:=q (i+1) v (by simpa using e)
  simpa using this
def P2(hc:X.calm=true){d:JY}(I:â X bv Z H s)(hA:A.handled=X.A.handled)(hd:H d=some (.dK jp))(hk:jp.map (·.1)=ns.map Sum.inl)(q:∀(vs:List JZ)(h':Heap)(tk:Tok),aq (ns.map V.int) vs->è s.heap h'->s.heap.objs.size<=h'.objs.size->R vs {s with heap:=h',toks:=tk}):wpAny (model X.prog X.w) A (collect (.ref d)) R E s:=by
 obtain⟨vs,ep,rel,z,hs,hm,_⟩:=I.freeze hd;have hl:jp.length=ns.length:=by have:=az List.length hk;rwa [aJ,aJ]at this
 have Gf:=rel.length;refine HY (W.kdl_dict (knd:=aw X.prog X.w) (kvs:=vs) (ep:=ep) hs) (hA.trans (I.ok.hd hc)) hm (by lia) λg tk ÿ hg hz ha=>q _ g tk ?_ hg hz;obtain⟨a1,a2⟩:=ha;refine C7 (by rw[fq,a1];lia) λi u hu=>?_;obtain⟨k,x,e1,e2⟩:=a2 i u (by simpa using hu);obtain⟨v,ev⟩:=WS rel e1;have ek:(jp.map (·.1))[i]?=some k:=by rw[bh,ev];rfl
 rw[hk,bh]at ek;cases en:ns[i]? with
 |none=>rw[en]at ek;cases ek
 |some n =>
  rw[en]at ek;obtain rfl:Sum.inl n=k:=bR ek;have er:ns.getD i 0=n:=by rw[lr,en];rfl
  rw[er];exact Ke e2
def Y9:List V->Hp->VK->Prop:=λxs H Q=>∃(d:JY)(jp:List (ä×V))(ns:List Int),xs=[.ref d]/\H d=some (.dK jp)/\jp.map (·.1)=ns.map Sum.inl/\ns.length<64/\∀(ys:List Int)(q:JY),ys.Perm ns->ys.Pairwise (·<=·)->H q=none->Q (.ref q) (ü H q (.lst (ys.map V.int)))
def jV(hu:X.A.units+16<cLine)(hc:X.calm=true:=by rfl):dt X (.builtin "sorted") Y9:=by
 intro bv s Z H xs us Q I r h;obtain⟨d,jp,ns,rfl,hd,hk,Ro,q⟩:=h;obtain⟨u,rfl,rx⟩:=é r;cases rx;have S:∀vs,aq (ns.map V.int) vs->∃κ,uG X.prog X.w X.A.in1.in1 s.heap vs (λi j=>cZ ((ns.map PyData.int).getD i .none) ((ns.map PyData.int).getD j .none)) κ:=λvs hv=>by
  have hl:=hv.length;rw[aJ]at hl;refine pC (by rw[aJ];lia) (λj hj=>?_) (λd Bs=>by obtain⟨n,_,rfl⟩:=ao.mp Bs;rfl) (λd Bs=>by obtain⟨n,_,rfl⟩:=ao.mp Bs;exact bt _) (MY ns) (by show X.A.units+1+1+12<cLine;lia);obtain⟨x,h1,h2⟩:=hv.back (cT hj);rw[bh]at h1;cases en:ns[j]? with
  |none=>rw[en]at h1;cases h1
  |some n =>
   rw[en]at h1;obtain rfl:V.int n=x:=bR h1;obtain⟨t,ht⟩:=(show ∃t,vs[j]=Value.int n t from h2);have er:(ns.map PyData.int).getD j .none=.int n:=(by rw[lr,bh,en];rfl);rw[ht,er];exact⟨_,.int n t⟩
 refine Ko (λvs=>aq (ns.map V.int) vs) (λvs hv=>by have:=hv.length;rw[aJ]at this;lia) (λR k=>P2 (A:=X.A.in1) hc I rfl hd hk λvs h' tk hv g hz=>k vs h' tk hv g hz) S λvs p h' tk e l hv hp ap g hz hl=>?_;have lc:ns.length=vs.length:=by have:=hv.length;rwa [aJ]at this
 obtain⟨z1,z2⟩:=pE hp ap ns lc (0:Int) (λx y=>x<=y) (λi j hi hj h0=>by
  have oW:i<ns.length:=by lia
  have Ol:j<ns.length:=by lia
  simp[oW,Ol,cZ]at h0
  simpa[oW,Ol]using h0)
 have uk:∀i∈p.toList,i<(ns.map V.int).length:=by
  intro i hi;have:=(DR.mp hp.pm).mem_iff.mp hi;have:i<vs.length:=by simpa using this
  rw[aJ];lia
 have rv:=hv.pick p.toList uk;have ev:(p.toList.map λi=>(ns.map V.int).getD i V.cX)=(p.toList.map λi=>ns.getD i 0).map V.int:=by rw[bB];refine iY λi hi=>?_;have:=uk i hi;rw[aJ]at this;simp[this]
 rw[ev]at rv;refine⟨.ref l,_,I.laid (t':=tk) (o:=.lst ((p.toList.map λi=>ns.getD i 0).map V.int)) (λb o eb=>g b o eb) hz ⟨by rw[aJ,aJ,fq,hp.sz,jM];lia,_,e,rv,hl⟩,rfl,q _ _ z1 z2 (I.cI.fresh hz)⟩
abbrev Tk:=List Int
def jO(a b:Int):List (Option Int):=[some a,some b]
structure dF(K:Ni)(H:Hp)(a:JY)(k:Tk):Prop where
 ex:(∃x y,k=[x,y]/\bO K H a [.int x,.int y])\/(∃x y z w b,k=[x,y,z,w]/\bO K H a [.int x,.int y,.ref b]/\bO K H b [.int z,.int w])
def dF.same{K:Ni}{s:Tk}(h:dF K H a s)(e:aI H H'):dF K H' a s:=by
 rcases h.ex with⟨x,y,h1,h2⟩|⟨x,y,z,w,b,h1,h2,h3⟩
 .exact⟨.inl ⟨x,y,h1,e.tup h2⟩⟩
 exact⟨.inr ⟨x,y,z,w,b,h1,e.tup h2,e.tup h3⟩⟩
def dF.kept{K:Ni}{s:Tk}(h:dF K H a s)(e:ù H H'):dF K H' a s:=by
 rcases h.ex with⟨x,y,h1,h2⟩|⟨x,y,z,w,b,h1,h2,h3⟩
 .exact⟨.inl ⟨x,y,h1,e.tup h2⟩⟩
 exact⟨.inr ⟨x,y,z,w,b,h1,e.tup h2,e.tup h3⟩⟩
def vL(h:Heap)(k:Tk)(a:JY):Prop:=(∃x y,k=[x,y]/\j4 h (jO x y) a)\/(∃x y z w b t t',k=[x,y,z,w]/\h.IsTuple a #[.int x t,.int y t',.ref b]/\j4 h (jO z w) b)
def Kp:Tk->Int
 |[x,y]=>zE (jO x y)
 |[x,y,z,w]=>reduceHash (Builtin.Tuple.tupleHashOf [hashInt x,hashInt y,zE (jO z w)])
 |_=>0
def MZ:Tk->Nat
 |[_,_]=>3
 |_=>6
def vM{x y:Int}(r:j4 h (jO x y) a):∃t u,h.IsTuple a #[.int x t,.int y u]:=by
 obtain⟨aa,r,ht⟩:=r;cases r with
 |cons r1 r =>
  cases r with
  |cons r2 r =>
   cases r;obtain⟨t,rfl⟩:=(show ∃t,_=Value.int x t from r1);obtain⟨u,rfl⟩:=(show ∃t,_=Value.int y t from r2);exact⟨t,u,ht⟩
def vL.inj{h:Heap}{a:JY}{x y:Tk}(hx:vL h x a)(hy:vL h y a):x=y:=by
 rcases hx with⟨p,q,rfl,r⟩|⟨p,q,z,w,b,t,t',rfl,r,r2⟩
 .rcases hy with⟨p',q',rfl,r'⟩|⟨p',q',z',w',b',u,u',rfl,r',ZA⟩
  .have:=r.inj r';simp only[jO,jK,Jy,fV]at this;rw[this.1,this.2]
  obtain⟨t,u2,ht⟩:=vM r;exact absurd (az Array.size (zF ht r')) (by show ¬((2:Nat)=3);decide)
 rcases hy with⟨p',q',rfl,r'⟩|⟨p',q',z',w',b',u,u',rfl,r',ZA⟩
 .obtain⟨t2,u2,ht⟩:=vM r';exact absurd (az Array.size (zF ht r)) (by show ¬((2:Nat)=3);decide)
 have e:=zF r r';simp only[Array.mk.injEq,jK,Value.int.injEq,Value.ref.injEq,fV]at e;obtain⟨⟨rfl,_⟩,⟨rfl,_⟩,rfl⟩:=e;have:=r2.inj ZA;simp only[jO,jK,Jy,fV]at this;rw[this.1,this.2]
def Nr{x:Tk}{Q:Int->JX->Prop}(hu:A.units+1<cLine)(hx:vL s.heap x a)(h:Q (Kp x) {s with toks:=s.toks+MZ x}):wpAny (model prog w) A (pyHash (.ref a)) Q E s:=by
 rcases hx with⟨p,q,rfl,r⟩|⟨p,q,z,ww,b,t,t',rfl,r,r2⟩
 .exact Ak (by lia) r h
 refine vJ (all:=[(.int p t,hashInt p,1),(.int q t',hashInt q,1),(.ref b,zE (jO z ww),3)]) (by lia) r (λy hy tk Q' hq=>?_) h;simp only[au,bE,dJ]at hy;rcases hy with rfl|rfl|rfl
 .exact D7 hq
 .exact D7 hq
 exact Ak (by show A.units+1<cLine;exact hu) r2 hq
def aCi{x y:Tk}{b:JY}(hu:A.units+1<cLine)(hx:vL s.heap x a)(hy:vL s.heap y b):SeqAt.EqAt A s (.ref a) (.ref b) (decide (x=y)):=by
 by_cases JQ:a=b
 .subst JQ;rw[bw (hx.inj hy)];exact tV _
 rcases hx with⟨p,q,rfl,r⟩|⟨p,q,z,ww,c,t,t',rfl,r,r2⟩
 .rcases hy with⟨p',q',rfl,r'⟩|⟨p',q',z',w',c',u,u',rfl,r',ZA⟩
  .have:=rowAt (A:=A) (by lia) r r';have e:decide (jO p q=jO p' q')=decide ([p,q]=[p',q']):=(by simp[jO]);rw[e]at this;exact this
  obtain⟨t,t2,ht⟩:=vM r;refine tO JQ ?_;have z:=wV (A:=A) (s:=s) (e:=λj=>if j=0 then(p==p')else(q==q')) ht r' (by lia) λj h1 h2=>?_
  .have e:((List.range (min (#[Value.int p t,Value.int q t2]:Array JZ).size (#[Value.int p' u,Value.int q' u',Value.ref c']:Array JZ).size)).all (λj=>if j=0 then(p==p')else(q==q'))&&(#[Value.int p t,Value.int q t2]:Array JZ).size==(#[Value.int p' u,Value.int q' u',Value.ref c']:Array JZ).size)=decide ([p,q]=[p',q',z',w']):=by rw[cL (by simp)];have e2:((#[Value.int p t,Value.int q t2]:Array JZ).size==(#[Value.int p' u,Value.int q' u',Value.ref c']:Array JZ).size)=false:=rfl;rw[e2,Bool.and_false]
   exact e▸z
  match j,h1,h2 with
  |0,_,_=>exact tP _ _ _ _
  |1,_,_=>exact tP _ _ _ _
  |j+2,h1,_=>exact absurd h1 (by show ¬(j+2<2);lia)
 rcases hy with⟨p',q',rfl,r'⟩|⟨p',q',z',w',c',u,u',rfl,r',ZA⟩
 .obtain⟨t3,t4,ht⟩:=vM r';refine tO JQ ?_;have zz:=wV (A:=A) (s:=s) (e:=λj=>if j=0 then(p==p')else(q==q')) r ht (by lia) λj h1 h2=>?_
  .have e:((List.range (min (#[Value.int p t,Value.int q t',Value.ref c]:Array JZ).size (#[Value.int p' t3,Value.int q' t4]:Array JZ).size)).all (λj=>if j=0 then(p==p')else(q==q'))&&(#[Value.int p t,Value.int q t',Value.ref c]:Array JZ).size==(#[Value.int p' t3,Value.int q' t4]:Array JZ).size)=decide ([p,q,z,ww]=[p',q']):=by rw[cL (by simp)];have e2:((#[Value.int p t,Value.int q t',Value.ref c]:Array JZ).size==(#[Value.int p' t3,Value.int q' t4]:Array JZ).size)=false:=rfl;rw[e2,Bool.and_false]
   exact e▸zz
  match j,h1,h2 with
  |0,_,_=>exact tP _ _ _ _
  |1,_,_=>exact tP _ _ _ _
  |j+2,_,h2=>exact absurd h2 (by show ¬(j+2<2);lia)
 refine tO JQ ?_;have zz:=wV (A:=A) (s:=s) (e:=λj=>if j=0 then(p==p')else if j=1 then(q==q')else decide (jO z ww=jO z' w')) r r' (by lia) λj h1 h2=>?_
 .have e:((List.range (min 3 3)).all (λj=>if j=0 then(p==p')else if j=1 then(q==q')else decide (jO z ww=jO z' w'))&&((3:Nat)==3))=decide ([p,q,z,ww]=[p',q',z',w']):=by have e3:List.range (min 3 3)=[0,1,2]:=rfl;rw[e3,jq];simp[jO]
  exact e▸zz
 match j,h1,h2 with
 |0,_,_=>exact tP _ _ _ _
 |1,_,_=>exact tP _ _ _ _
 |2,_,_=>exact rowAt (by show A.units+1<cLine;exact hu) r2 ZA
 |j+3,h1,_=>exact absurd h1 (by show ¬(j+3<3);lia)
def P4{x:Tk}{Q:Bool->JX->Prop}(hx:vL s.heap x a)(h:Q true s):wpAny (model prog w) A (eqIsQuiet 8 (.ref a)) Q E s:=by
 rcases hx with⟨p,q,rfl,r⟩|⟨p,q,z,ww,b,t,t',rfl,r,r2⟩
 .exact C2 7 r h
 refine yC 7 r (λv hv Q' hq=>?_) h;simp only[au,bE,dJ]at hv;rcases hv with rfl|rfl|rfl
 .rw[eqIsQuiet_byValue _ rfl];exact aS hq
 .rw[eqIsQuiet_byValue _ rfl];exact aS hq
 exact C2 6 r2 hq
def Kq(prog:Ja)(w:Jb):HeapKind prog w Tk where
 is:=vL
 hash:=Kp
 draws:=MZ
 room:=λA=>A.units+1<cLine
 inj:=λhx hy=>hx.inj hy
 keeps:=λ{h h' k a d o es ep} hx ho hd hs=>by
  rcases hx with⟨p,q,rfl,⟨i1,r1,p1⟩⟩|⟨p,q,z,ww,b,t,t',rfl,r,⟨i1,r1,p1⟩⟩
  .exact .inl ⟨p,q,rfl,i1,r1,Aj p1 ho hd hs⟩
  exact .inr ⟨p,q,z,ww,b,t,t',rfl,Aj r ho hd hs,i1,r1,Aj p1 ho hd hs⟩
 pyHash:=λhu hk h=>Nr hu hk h
 eqBool:=λhu hx hy h=>aCi hu hx hy _ _ _ _ h
 quiet:=λhk h=>P4 hk h
abbrev TX:=List (Tk×JY×V)
def vN(q:Tk×JY×JZ):DictEntry:=⟨Kp q.1,.ref q.2.1,q.2.2⟩
abbrev Q3:TX->List (Tk×JY×JZ)->Prop:=Paired λp q=>p.1=q.1/\p.2.1=q.2.1/\æ p.2.2 q.2.2
def DKφ(a:JY)(xs:TX)(h:Heap):Prop:=xs.length<=sizeLine/\(a==sysModules)=false/\(xs.map (·.1)).Nodup/\∃vs:List (Tk×JY×JZ),Q3 xs vs/\∃o es ep,h.get? a=some o/\o.ExactDict/\o.data=.dict es ep/\es.toList=vs.map vN
def jP(a:JY)(xs:TX):HO:=.ext (DKφ a xs)
def ir(xs:TX)(k:Tk):Option V:=(xs.find? λx=>decide (x.1=k)).map (·.2.2)
def lG(xs:TX)(k:Tk)(b:JY)(v:V):TX:=if(ir xs k).isSome then xs.map (λx=>if x.1=k then(x.1,x.2.1,v)else x)else xs++[(k,b,v)]
def dX(xs:TX)(k:Tk):(ir xs k).isSome=decide (k∈xs.map (·.1)):=by unfold ir;rw[uu,jq,uo,List.find?_isSome];simp only[tN,ao]
def vO{xs:TX}{k:Tk}{b:JY}(h:k∉xs.map (·.1)):lG xs k b v=xs++[(k,b,v)]:=by unfold lG;rw[dX,cL h];rfl
def B4{xs:TX}{k:Tk}{b:JY}(h:k∈xs.map (·.1)):(lG xs k b v).map (·.1)=xs.map (·.1):=by unfold lG;rw[dX,bw h,aL rfl,bB];apply iY;intro x _;show(if x.1=k then(x.1,x.2.1,v)else x).1=x.1;split<;>rfl
def P6(xs:TX)(k:Tk)(b:JY)(v:V):(lG xs k b v).length<=xs.length+1:=by
 unfold lG;split
 .rw[aJ];lia
 simp
def Kr{xs:TX}(hn:(xs.map (·.1)).Nodup)(k:Tk)(b:JY)(v:V):((lG xs k b v).map (·.1)).Nodup:=by
 by_cases h:k∈xs.map (·.1)
 .rw[B4 h];exact hn
 rw[vO h,bD];exact MS hn h
def Q3.val{xs:TX}{vs:List (Tk×JY×JZ)}(r:Q3 xs vs)(k:Tk):l8 (ir xs k) ((atKey vs k).map (·.2)):=by
 induction r with
 |nil=>exact True.intro
 |@cons p q ps qs h t ih =>
  obtain⟨h1,_,h2⟩:=h;by_cases e:p.1=k
  .have e':q.1=k:=h1.symm.trans e;have b:atKey (q::qs) k=some q.2:=(by simp[atKey,ia,e']);have b':ir (p::ps) k=some p.2.2:=(by simp[ir,ia,e]);rw[b',b];exact h2
  have e':¬q.1=k:=λz=>e (h1.trans z);have b:atKey (q::qs) k=atKey qs k:=by simp[atKey,ia,e']
  have b':ir (p::ps) k=ir ps k:=by simp[ir,ia,e]
  rw[b',b];exact ih
def Q3.Ph{xs:TX}{vs:List (Tk×JY×JZ)}(r:Q3 xs vs)(k:Tk){y:V}(ry:æ y u):
  Q3 (xs.map λx=>if x.1=k then(x.1,x.2.1,y)else x) (vs.map (putAt k u)):=by
 induction r with
 |nil=>exact .nil
 |@cons p q ps qs h t ih =>
  rw[bz,bz];refine .cons ?_ ih;obtain⟨h1,h2,h3⟩:=h;unfold putAt;by_cases e:p.1=k
  .rw[aL e,aL (h1.symm.trans e)];exact⟨h1,h2,ry⟩
  rw[aK e,aK (λz=>e (h1.trans z))];exact⟨h1,h2,h3⟩
def Q3.put{xs:TX}{vs:List (Tk×JY×JZ)}(r:Q3 xs vs)(k:Tk)(b:JY){y:V}(ry:æ y u):Q3 (lG xs k b y) (storedH vs k b u):=by
 have e:(ir xs k).isSome=(atKey vs k).isSome:=by rw[(r.val k).gb,uu]
 unfold lG storedH;rw[e];by_cases q:(atKey vs k).isSome=true
 .rw[aL q,aL q];exact r.Ph k ry
 rw[aK q,aK q];exact Paired.snoc r ⟨rfl,rfl,ry⟩
def Q3.keys{xs:TX}{vs:List (Tk×JY×JZ)}(r:Q3 xs vs):xs.map (·.1)=vs.map (·.1):=by
 induction r with
 |nil=>rfl
 |cons h t ih=>rw[bz,bz,ih,h.1]
def Wd(d:JY)(es:Array DictEntry)(ep:Nat):HO:=.ext (rJ d es ep)
def Ks(d:JY)(xs:TX)(u:HO):Prop:=xs.length<=sizeLine/\(d==sysModules)=false/\(xs.map (·.1)).Nodup/\∃(vs:List (Tk×JY×JZ))(es:Array DictEntry)(ep:Nat),Q3 xs vs/\es.toList=vs.map vN/\u=Wd d es ep
structure TD(K:Ni)(H:Hp)(a:JY)(xs:TX):Prop where
 at_:H a=some (jP a xs)\/∃u,H a=some u/\Ks a xs u
 keys:∀p∈xs,dF K H p.2.1 p.1
section
variable{xs:TX}
def Nt(I:â X bv Z H s){b:JY}{k:Tk}(h:dF X.K H b k):vL s.heap k b:=by
 rcases h.ex with⟨x,y,e,h1⟩|⟨x,y,z,w,p,e,h1,h2⟩
 .exact .inl ⟨x,y,e,U1 I h1⟩
 obtain⟨aa,r,ht,_⟩:=I.tuple h1;cases r with
 |cons r1 r =>
  cases r with
  |cons r2 r =>
   cases r with
   |cons r3 r =>
    cases r;obtain⟨t,rfl⟩:=r1;obtain⟨t',rfl⟩:=r2;cases r3;exact .inr ⟨x,y,z,w,p,t,t',e,ht,U1 I h2⟩
def TD.raw(I:â X bv Z H s)(d:H a=some (jP a xs)):DKφ a xs s.heap:=(I.cI a _ d).1
def TD.either(I:â X bv Z H s)(d:H a=some (jP a xs)\/∃u,H a=some u/\Ks a xs u):DKφ a xs s.heap:=by
 rcases d with d|⟨u,d,z,hd,hn,vs,es,ep,r,h4,rfl⟩
 .exact TD.raw I d
 obtain⟨o,h1,h2,h3⟩:=(show cY X.prog X.w H s.heap a (Wd a es ep)from I.cI a _ d).1;exact⟨z,hd,hn,vs,r,o,es,ep,h1,h2,h3,h4⟩
def TD.dict(I:â X bv Z H s)(d:TD X.K H a xs):xs.length<=sizeLine/\(a==sysModules)=false/\(xs.map (·.1)).Nodup/\∃vs,Q3 xs vs/\s.heap.DictOfH (Kq X.prog X.w) a vs:=by
 obtain⟨z,hd,hn,vs,r,o,es,ep,h1,h2,h3,h4⟩:=TD.either I d.at_;refine⟨z,hd,hn,vs,r,o,es,ep,h1,h2,h3,h4,?_,by rw[<-r.keys];exact hn⟩;have all:∀{l:TX}{m:List (Tk×JY×JZ)},Q3 l m->(∀p∈l,dF X.K H p.2.1 p.1)->∀x∈m,(Kq X.prog X.w).is s.heap x.1 x.2.1:=by
  intro l m q
  induction q with
  |nil=>intro _ x hx;exact nomatch hx
  |@cons p q ps qs hq t ih =>
   intro hl x hx;rcases au.mp hx with e|hx
   .subst e;rw[<-hq.1,<-hq.2.1];exact Nt I (hl p bp)
   exact ih (λp hp=>hl p (bU _ hp)) x hx
 exact all r d.keys
def P7{P:Ja}(z:xs.length<=sizeLine)(hd:(a==sysModules)=false)(hn:(xs.map (·.1)).Nodup){vs:List (Tk×JY×JZ)}(r:Q3 xs vs){es:Array DictEntry}(h1:h'.get? a=some o)(h2:o.ExactDict)(h3:o.data=.dict es ep)(h4:es.toList=vs.map vN):cY P w H' h' a (jP a xs) :=
 ⟨⟨z,hd,hn,vs,r,o,es,ep,h1,h2,h3,h4⟩,⟨o,h1⟩,λg1 g2 ⟨z,hd,hn,vs,r,o,es,ep,h1,h2,h3,h4⟩ k=>⟨z,hd,hn,vs,r,o,es,ep,k o h1,h2,h3,h4⟩⟩
def We:Xb (some (jP a xs)):=True.intro
def Nu{b:JY}{k:Tk}{r:JZ}{Q:Unit->JX->Prop}(hu:A.units+2<cLine)(I:â X bv Z H s)(d:TD X.K H a xs)(da:H a=some (jP a xs))(hb:dF X.K H b k)(hl:xs.length<sizeLine)(rv:æ v r)(h:∀s',â X bv Z (ü H a (jP a (lG xs k b v))) s'->Q () s'):wpAny (model X.prog X.w) A (setItem (.ref a) (.ref b) r) Q E s:=by
 obtain⟨z,hd,hn,vs,rel,dd⟩:=d.dict I;have hz:vs.length<=sizeLine:=by rw[<-md rel];exact z
 refine wpAny_setItem_heap (hsz:=hz) (show A.in1.units+1<cLine from by show A.units+1+1<cLine;lia) (Nt I hb) dd λh' Pj hs=>h _ ?_;obtain⟨q,es,ep,hq,h2,h3,h4,_,h5⟩:=Pj;refine zC I (by rw[da];exact We) hs ⟨q,hq⟩ (P7 (by have:=P6 xs k b v;lia) hd (Kr hn k b v) (rel.put k b rv) hq h2 h3 h4)
end
def ZC(K:Ni):R2:=λx y H Q=>∃a b xs k v,x=.ref a/\y=.ref b/\TD K H a xs/\dF K H b k/\ir xs k=some v/\Q v H
def ZD(K:Ni)(neg:Bool):R2:=λx y H Q=>∃a b xs k,x=.ref b/\y=.ref a/\TD K H a xs/\dF K H b k/\Q (.bl (if neg then !decide (k∈xs.map (·.1))else decide (k∈xs.map (·.1)))) H
section
def Ss(K:Ni)(hu:X.A.units+16<cLine)(hK:X.K=K:=by rfl):kY X (compareOp .In) (ZD K false):=by subst hK;intro bv s Z H x y v u Q I rx ry h;obtain⟨a,b,xs,k,rfl,rfl,d,hb,q⟩:=h;cases rx;cases ry;obtain⟨z,hd,hn,vs,rel,dd⟩:=d.dict I;refine wpAny_in_heap (show X.A.in1.units+1<cLine from by show X.A.units+1+1<cLine;lia) (Nt I hb) hd dd ?_;have e:=(rel.val k).gb;rw[uu]at e;rw[<-e,dX];exact⟨.bl _,H,I.tok _,rfl,q⟩
def Kt(K:Ni)(hu:X.A.units+16<cLine)(hK:X.K=K:=by rfl):kY X (compareOp .NotIn) (ZD K true):=by subst hK;intro bv s Z H x y v u Q I rx ry h;obtain⟨a,b,xs,k,rfl,rfl,d,hb,q⟩:=h;cases rx;cases ry;obtain⟨z,hd,hn,vs,rel,dd⟩:=d.dict I;refine wpAny_notIn_heap (show X.A.in1.units+1<cLine from by show X.A.units+1+1<cLine;lia) (Nt I hb) hd dd ?_;have e:=(rel.val k).gb;rw[uu]at e;rw[<-e,dX];exact⟨.bl _,H,I.tok _,rfl,q⟩
variable{o i:Expr}
def kg(K:Ni)(hu:X.A.units+16<cLine)(ho:PE X o td)(hi:PE X i ty)(hs:WQ i)(hK:X.K=K:=by rfl):PE X (.Subscript o i pos) (R0 (ZC K) td ty):=by subst hK;intro bv s Z H Q I h;refine MQ PySem.F.slot_dict_getitem.lookup hs (cC (ho bv s Z H _ I h) λu s1 ⟨x,H1,I1,rx,q1⟩=>cC (hi bv s1 Z H1 _ I1 q1) λiv s2 h_=>?_);obtain⟨y,H2,I2,ry,a,b,xs,k,v,ex,ey,d,hb,hv,q2⟩:=h_;subst ex;subst ey;cases rx;cases ry;obtain⟨z,hd,hn,vs,rel,dd⟩:=d.dict I2;obtain⟨w',hw,NS⟩:=l8.some_of (v:=v) (o:=(atKey vs k).map (·.2)) (by rw[<-hv];exact rel.val k);obtain⟨p,hp,uE⟩:=gk.mp hw;refine⟨dd.typeIs,wpAny_getItem_heap (show X.A.in1.units+1<cLine from by show X.A.units+1+1<cLine;lia) (Nt I2 hb) dd hp ?_⟩;rw[uE];exact⟨v,H2,I2.tok _,NS,q2⟩
def ZE(K:Ni)(td ty tv:TE):TS:=λD Z H=>tv Z H λv H1=>td Z H1 λx H2=>ty Z H2 λy H3=>∃a b xs k,x=.ref a/\y=.ref b/\TD K H3 a xs/\H3 a=some (jP a xs)/\dF K H3 b k/\xs.length<sizeLine/\D.nx Z (ü H3 a (jP a (lG xs k b v)))
def zK(K:Ni)(hu:X.A.units+16<cLine)(ho:PE X o td)(hi:PE X i ty)(hv:PE X value tv)(hs:swapsWith value (some (.Subscript o i pos')) pos.line X.env=pure false)(hK:X.K=K:=by rfl):
  PS X (.Assign [.Subscript o i pos'] value pos) (ZE K td ty tv):=by
 subst hK;intro bv s Z H D I h;refine wpAny_Assign_Subscript (cC (hv bv s Z H _ I h) λr s1 ⟨v,H1,I1,rv,q1⟩=>cC (ho bv s1 Z H1 _ I1 q1) λu s2 ⟨x,H2,I2,rx,q2⟩=>cC (hi bv s2 Z H2 _ I2 q2) λiv s3 h_=>?_) hs;obtain⟨y,H3,I3,ry,a,b,xs,k,ex,ey,d,da,hb,hl,q3⟩:=h_;subst ex;subst ey;cases rx;cases ry;exact Nu (by lia) I3 d da hb hl rv λs4 I4=>⟨Z,_,I4,q3⟩
def ZF:TE:=λ_ H Q=>∀p,H p=none->Q (.ref p) (ü H p (jP p []))
def Nv{P:Ja}(h:Heap)(hb:sysModules<h.objs.size):cY P w H (h.push ox) h.objs.size (jP h.objs.size []) :=
 P7 (bt _) (tK.mpr (bS (cg hb))) zp .nil (bK _ rfl) ⟨rfl,rfl,rfl⟩ (ep:=0) rfl rfl
def Ep:PE X (.Dict [] [] pos) ZF:=λbv s Z H Q I h =>
 wpAny_Dict_empty ⟨.ref s.heap.objs.size,_,I.laid (a:=s.heap.objs.size) (o:=jP s.heap.objs.size []) (t':=s.toks) (λ_ _ q=>bG _ q) (ae _) (Nv s.heap I.big),rfl,h _ (I.cI.fresh (ae _))⟩
end
def Su(d:JY)(u:HO)(xs:TX):It where
 go:=λi H=>H d=some u/\i<xs.length
 Rn:=λi H x H'=>H'=H/\∃p,xs[i]?=some p/\x=.ref p.2.1
 stop:=λi H=>H d=some u/\xs.length<=i
def Q3.addrs{xs:TX}{vs:List (Tk×JY×JZ)}(r:Q3 xs vs):aq (xs.map λp=>V.ref p.2.1) (vs.map λq=>Value.ref q.2.1):=by
 induction r with
 |nil=>exact .nil
 |@cons p q ps qs h t ih =>
  refine .cons ?_ ih;show Value.ref q.2.1=Value.ref p.2.1;rw[h.2.1]
def Ha{P:Ja}{K:Ni}{d:JY}{xs:TX}{vs:List (Tk×JY×JZ)}{es:Array DictEntry}(r:Q3 xs vs)(he:es.toList=vs.map vN):
  î P w K tg (Su d (Wd d es ep) xs) [it] it (λi h=>h.IsKeyIter it d i es.size ep)where
 mem:=by simp
 obj:=λi h st b hb=>by
  have e:b=it:=by simpa using hb
  subst e;obtain⟨o,e,c,dd⟩:=st;exact⟨o,e,λv z=>by rw[dd]at z;cases z⟩
 keep:=λi h h' st k=>st.at λo e=>k it (by simp) o e
 item:=by
  intro X hP hw hK hc i bv s Z H E I hf st hg;subst hP hw hK;obtain⟨hd,hi⟩:=hg;have hm:rJ d es ep s.heap:=(show cY X.prog X.w H s.heap d (Wd d es ep)from I.cI d _ hd).1;have hl:es.size=xs.length:=by have:=az List.length he;simp only[fq,aJ]at this;rw[this,<-md r]
  obtain⟨f0,f1,f2,f3,f4,f5⟩:=hf it (by simp);have oW:i<es.size:=by lia
  refine G6 st hm oW λh' tq sb=>?_;have I1:â X bv Z H {s with heap:=h'}:=I.turned (t':=s.toks) (λb o hb e=>sb.extBut b o hb e) f0 f1 f3 f4 f5
  obtain⟨o,e,c,dd⟩:=id tq;have ex:xs[i]?=some xs[i]:=by simp[hi]
  obtain⟨p,hp⟩:∃p,xs[i]=p:=⟨_,rfl⟩;rw[hp]at ex;obtain⟨u,hu,ru⟩:=(Q3.addrs r).get (i:=i) (x:=V.ref p.2.1) (by rw[bh,ex];rfl);have ek:es[i].key=u:=by
   have e2:es.toList[i]?=some es[i]:=(by simp[oW]);rw[he,bh]at e2;rw[bh]at hu;cases ew:vs[i]? with
   |none=>rw[ew]at e2;cases e2
   |some q =>
    rw[ew]at e2 hu;rw[<-bR e2,<-bR hu];rfl
  exact⟨es[i].key,rfl,AK (s:={s with heap:=h'}) e c dd (by decide) ⟨.ref p.2.1,H,I1,by rw[ek];exact ru,⟨rfl,p,ex,rfl⟩,tq,λb hb=>(hf b hb).1⟩⟩
 done:=by
  intro X hP hw hK hc i bv s Z H E I hf st hg;subst hP hw hK;obtain⟨hd,hi⟩:=hg;have hm:rJ d es ep s.heap:=(show cY X.prog X.w H s.heap d (Wd d es ep)from I.cI d _ hd).1;have hl:es.size=xs.length:=by have:=az List.length he;simp only[fq,aJ]at this;rw[this,<-md r]
  obtain⟨f0,f1,f2,f3,f4,f5⟩:=hf it (by simp);exact MV (I.ok.hd hc) st hm (by lia) λh' eb=>⟨rfl,I.turned (t':=s.toks) (λb o hb e=>eb b o hb e) f0 f1 f3 f4 f5⟩
 self:=λ_ _ _ _ _ st h=>wpAny_pyIter_keyiter st h
def â.P8{d:JY}{xs:TX}(I:â X bv Z H s)(hd:H d=some (jP d xs)):
  ∃vs es ep,Q3 xs vs/\es.toList=vs.map vN/\xs.length<=sizeLine/\(d==sysModules)=false/\(xs.map (·.1)).Nodup/\rJ d es ep s.heap/\â X bv Z (ü H d (Wd d es ep)) s:=by
 obtain⟨z,hs,hn,vs,r,o,es,ep,h1,h2,h3,h4⟩:=TD.raw I hd;have hm:rJ d es ep s.heap:=⟨o,h1,h2,h3⟩;refine⟨vs,es,ep,r,h4,z,hs,hn,hm,?_⟩;exact I.write (x:=d) (e:=d) (h':=s.heap) (t':=s.toks) (by rw[hd];exact True.intro) (.inl rfl) (λ_ _ _ q=>q) ⟨o,h1⟩ ⟨hm,⟨o,h1⟩,λg1 g2 x k=>x.at_ k⟩
def â.P9{d:JY}{xs:TX}{u:HO}(I:â X bv Z H s)(ok:Ks d xs u)(hd:H d=some u):â X bv Z (ü H d (jP d xs)) s:=by obtain⟨z,hs,hn,vs,es,ep,r,h4,rfl⟩:=ok;obtain⟨o,h1,h2,h3⟩:=(show cY X.prog X.w H s.heap d (Wd d es ep)from I.cI d _ hd).1;exact I.write (x:=d) (e:=d) (h':=s.heap) (t':=s.toks) (by rw[hd];exact True.intro) (.inl rfl) (λ_ _ _ q=>q) ⟨o,h1⟩ (P7 z hs hn r h1 h2 h3 h4)
def Sv(td:TE):TI:=λZ H R=>td Z H λx H1=>∃d xs,x=.ref d/\H1 d=some (jP d xs)/\∀u,Ks d xs u->R (Su d u xs) (ü H1 d u)
def jh{l:Expr}(hl:PE X l td):PI X tg l (Sv td):=by
 intro bv s Z H R I h;refine cC (hl bv s Z H _ I h) λv s1 h_=>?_;obtain⟨x,H1,I1,r1,q1⟩:=h_;obtain⟨d,xs,rfl,hd,q⟩:=q1;cases r1;obtain⟨vs,es,ep,rel,he,z,hs,hn,hm,I2⟩:=I1.P8 hd;refine G5 hs hm ?_;refine⟨s1.heap.objs.size,[s1.heap.objs.size],_,_,_,rfl,I2.kept (t':=s1.toks) λb o e=>bG _ e,Ha rel he,⟨_,bK _ rfl,rfl,rfl⟩,λb hb=>?_,q _ ⟨z,hs,hn,vs,es,ep,rel,he,rfl⟩⟩;have e:b=s1.heap.objs.size:=by simpa using hb
 subst e;exact I2.yb (ae _) (I2.cI.fresh (ae _))
def Sw(t:TS):TS:=λD Z H=>t {D with nx:=λZ' H'=>∃d xs u,Ks d xs u/\H' d=some u/\D.nx Z' (ü H' d (jP d xs))} Z H
def xG{t:TS}(h:PS X st t):PS X st (Sw t):=by
 intro bv s Z H D I q;refine gW (h bv s Z H _ I q) (λf s' q=>?_) λ_ _ z=>z;cases f with
 |next=>obtain⟨Z',H',I',d,xs,u,ok,hd,q⟩:=q;exact⟨Z',_,I'.P9 ok hd,q⟩
 |brk=>exact q
 |cont=>exact q
 |ret u=>exact q
def Sy(t:TE):TE:=λZ H Q=>t Z H λx H'=>∃d xs u,Ks d xs u/\H' d=some u/\Q x (ü H' d (jP d xs))
def C8{t:TE}(h:PE X e t):PE X e (Sy t):=by intro bv s Z H Q I q;exact cC (h bv s Z H _ I q) λv s1 h_=>by obtain⟨x,H1,I1,r1,d,xs,u,ok,hd,q1⟩:=h_;exact⟨x,_,I1.P9 ok hd,r1,q1⟩
section
variable{g:TG}{Q:VK}
def C9{d:JY}{u:HO}{xs:TX}(Pv:Nat->St->Hp->Prop)(h0:Pv 0 Z H)(hl:∀i Z H,i<=xs.length->Pv i Z H->H d=some u)(hs:∀(i:Nat)(p:Tk×JY×V)(Z:St)(H:Hp)(N:St->Hp->Prop),(∀Z H,Pv (i+1) Z H->N Z H)->xs[i]?=some p->Pv i Z H->g (.ref p.2.1) Z H (Lb tt te D N))(hd:∀Z H,Pv xs.length Z H->Q (.ref D) H):oP (Su d u xs) g tt te D Z H Q:=by refine yA xs.length Pv h0 (λi Z H N hN lt p=>⟨⟨hl i Z H (gT lt) p,lt⟩,?_⟩) λZ H p=>⟨⟨hl _ Z H (ae _) p,ae _⟩,hd Z H p⟩;rintro x H' ⟨rfl,k,ex,rfl⟩;exact hs i k Z _ N hN ex p
def nG{d:JY}{u:HO}{xs:TX}{D:ï}(Pv:Nat->St->Hp->Prop)(h0:Pv 0 Z H)(hl:∀i Z H,i<=xs.length->Pv i Z H->H d=some u)(hs:∀(i:Nat)(p:Tk×JY×V)(Z:St)(H:Hp),xs[i]?=some p->Pv i Z H->g (.ref p.2.1) Z H (Bf tb D (Pv (i+1))))(hd:∀Z H,Pv xs.length Z H->D.nx Z H):EO (Su d u xs) g tb D Z H:=by refine o3 xs.length Pv h0 (λi Z H lt p=>⟨⟨hl i Z H (gT lt) p,lt⟩,?_⟩) λZ H p=>⟨⟨hl _ Z H (ae _) p,ae _⟩,hd Z H p⟩;rintro x H' ⟨rfl,k,ex,rfl⟩;exact hs i k Z _ ex p
end
def Wf(K:Ni)(td ty tx:TE):TE:=λZ H Q=>td Z H λx H1=>∃a xs,x=.ref a/\TD K H1 a xs/\ty Z H1 λy H2=>tx Z H2 λz H3=>∃b ys k,y=.ref b/\TD K H3 a ys/\dF K H3 b k/\Q ((ir ys k).getD z) H3
section
variable{o f:Expr}{apos kT:Pos}{tx:TE}
def QA(K:Ni)(hu:X.A.units+16<cLine)(ho:PE X o td)(he:PE X e ty)(hf:PE X f tx)(m:M2 X o "get" apos e f kT)(hK:X.K=K:=by rfl):PE X (.Call (.Attribute o "get" apos) [e,f] [] kT) (Wf K td ty tx):=by
 subst hK;intro bv s Z H Q I h;refine wpAny_Call_method m.à m.wM m.line PySem.F.plainAttrs_dict PySem.F.slot_dict_get PySem.F.type_dict_get (cC (ho bv s Z H _ I h) λu s1 h_=>?_);obtain⟨x,H1,I1,rx,a,xs,ex,d,q1⟩:=h_;subst ex;obtain rfl:u=Value.ref a:=rx;obtain⟨z1,hd1,hn1,vs1,aGt,dd1⟩:=d.dict I1;have t2:∀c,Value.ref a=.ref c->∃ob,s1.heap.get? c=some ob/\ob.dict=none:=λc q=>by cases q;obtain⟨ob,_,_,h1,h2,_⟩:=dd1;exact⟨ob,h1,h2.2.1⟩
 refine⟨dd1.typeIs,t2,?_⟩;rw[m.trees];refine Calls.callWith_builtin rfl (Calls.evalArgs_plain (zk (cC (he bv s1 Z H1 _ I1 q1) λiv s2 ⟨y,H2,I2,ry,q2⟩ =>
  zk (cC (hf bv s2 Z H2 _ I2 q2) λfv s3 ⟨z,H3,I3,rz,b,ys,k,ey,d3,hb,q3⟩=>D6 ?_))))
 subst ey;cases(show iv=Value.ref b from ry);obtain⟨z3,hd3,hn3,vs3,aCj,dd3⟩:=d3.dict I3;refine call_meetsIn PySem.F.slot_dict_get dd3.typeIs PySem.F.entry_dict_get (PySem.F.args_dict_get_3 _ _ _) (meetsH_dict_get_default (Kq X.prog X.w) a b hd3 fv) ⟨?_,k,vs3,Nt I3 hb,dd3,⟨_,H3,I3.tok _,?_,q3⟩⟩
 .show X.A.in1.units+1<cLine;show X.A.units+1+1<cLine;lia
 exact(aCj.val k).getD rz
end
section
variable{d:JY}{es:Array DictEntry}
def Sz(hh:A.handled=none)(ne:d≠it):PySem.Walks prog w A it [it,d] [it] es.size (λi v=>∃h:i<es.size,v=es[i].key) (λi h=>h.IsKeyIter it d i es.size ep/\rJ d es ep h)where
 sub:=by simp
 frame:=λi h h' st k=>⟨st.1.at λo e=>k it (by simp) o e,st.2.at_ λo e=>k d (by simp) o e⟩
 item:=λi s Q E hi st hQ=>G6 st.1 st.2 hi λh' tq sb=>hQ es[i].key h' s.toks ⟨hi,rfl⟩ ⟨tq,st.2.at_ λo e=>sb.extBut d o ne e⟩ λb o hb e=>sb.extBut b o (by simpa using hb) e
 done:=λs Q E st hQ=>MV hh st.1 st.2 (ae _) λh' eb=>hQ h' s.toks λb o hb e=>eb b o (by simpa using hb) e
 self:=λ_ _ _ _ st h=>wpAny_pyIter_keyiter st.1 h
def Hb(hm:rJ d es ep s.heap):s.TypeIs (.ref d) "dict":=by obtain⟨o,h1,h2,_⟩:=hm;exact⟨o,h1,h2.1⟩
def S0(lo:(d==sysModules)=false):W.KdlSrc prog w "dict" d d es.size (λi v=>∃h:i<es.size,v=es[i].key) (rJ d es ep)where
 type:=λ_ hm=>Hb hm
 there:=λ_ ⟨_,h1,_⟩=>⟨bC h1,bC h1⟩
 keep:=λ_ _ hm hk=>hm.at_ λo e=>hk d (.inl rfl) o e
 notList:=by decide
 notTuple:=by decide
 hint:=λ_ _ _ _ hm hq=>W.kdl_hint_dict (Hb hm) hq
 iter:=λ_ s hh hm=>⟨_,_,(λ_ _ hq=>G5 lo hm hq),Sz hh (cg (let⟨_,h1,_⟩:=hm;bC h1)),⟨⟨_,bK _ rfl,rfl,rfl⟩,hm.at_ λo e=>bG _ e⟩⟩
end
def S9:List V->Hp->VK->Prop:=λxs H Q=>∃(d:JY)(ks:TX),xs=[.ref d]/\H d=some (jP d ks)/\∀q:JY,H q=none->Q (.ref q) (ü H q (.lst (ks.map λk=>V.ref k.2.1)))
def Hc(hc:X.calm=true:=by rfl):dt X (.type "list") S9:=by
 intro bv s Z H xs us Q I r h;obtain⟨d,ks,rfl,hd,q⟩:=h;obtain⟨u,rfl,rx⟩:=é r;cases rx;obtain⟨z,hs,hn,vs,rel,o,es,ep,h1,h2,h3,h4⟩:=TD.raw I hd;have hl:es.size=ks.length:=by have:=az List.length h4;simp only[fq,aJ]at this;rw[this,<-md rel]
 refine W.kdl_call (S0 (es:=es) (ep:=ep) hs) (I.ok.hd hc) ⟨o,h1,h2,h3⟩ (by lia) λh' tk ÿ c hg hD ha=>?_;obtain⟨a1,a2⟩:=ha;have rv:aq (ks.map λk=>V.ref k.2.1) ÿ.toList:=by
  have e:ÿ.toList=vs.map λp=>Value.ref p.2.1:=by
   apply mW;intro i;have el:es.toList.length=vs.length:=(by rw[h4,aJ]);rw[fq]at el;by_cases hi:i<es.size
   .have e1:ÿ.toList[i]?=some (ÿ[i]'(by lia)):=(by simp[show i<ÿ.size by lia]);obtain⟨_,ev⟩:=a2 i (ÿ[i]'(by lia)) (by simp[show i<ÿ.size by lia]);have e2:es.toList[i]?=some es[i]:=(by simp[hi]);rw[h4,bh]at e2;rw[e1,bh,ev];cases ew:vs[i]? with
    |none=>rw[ew]at e2;cases e2
    |some p =>
     rw[ew]at e2;rw[<-bR e2];rfl
   rw[jG (by rw[fq];lia),jG (by rw[aJ];lia)]
  rw[e];exact Q3.addrs rel
 exact⟨.ref _,_,I.laid (t':=tk) (o:=.lst (ks.map λk=>V.ref k.2.1)) (a:=s.heap.objs.size) hg (ae _) ⟨by rw[aJ];lia,_,c,rv,hD⟩,rfl,q _ (I.cI.fresh (ae _))⟩
def Hd{M:Model}{Q:Option Obj->JX->Prop}(h:Q (s.heap.get? a) s):wpAny M A (loadIfAlive a) Q E s:=λΓ p _=>by unfold loadIfAlive;rw[Sem.wp_loadIfAlive];exact(Sem.wp_pure ..).mpr h
abbrev Ku(h:Heap)(z TI TO:JY)(f0:JZ)(b:Bool):Prop :=
 h.get? z=some {cls:=.type "zip",dict:=none,data:=.fields #[f0,.bool b,.bool false,.ref TI,.ref TO],slots:=#[]}
def Ap(f0:JZ):Prop:=f0=.none\/∃a t,f0=.int a t
def Aq{TI TO:JY}{Q:Bool->JX->Prop}(hz:Ku s.heap z TI TO f0 b)(hf:Ap f0)(h1:Q true s)(h2:∀h',Ku h' z TI TO f0 true->Heap.SameBut z s.heap h'->Q false {s with heap:=h'}):
  wpAny (model prog w) A (Builtin.SmallTypes.ownedTupleIsFree (.ref z)) Q E s:=by
 unfold Builtin.SmallTypes.ownedTupleIsFree;refine aG (gO hz rfl (x:=f0) rfl ?_);rcases hf with rfl|⟨a,t,rfl⟩
 .exact aS h1
 refine aG (Hd ?_);cases e:s.heap.get? a.toNat with
 |none=>exact aS h1
 |some o =>
  refine(show wpAny _ _ (field (.ref z) 1 >>= _) _ _ _ from aG (gO hz rfl (x:=.bool b) rfl ?_));cases b with
  |true=>exact aS (h2 s.heap hz (.refl _ _))
  |false=>exact aG (kW hz (by simp) λh' Wg hs=>aS (h2 h' Wg hs))
def yk{t:JY}(hh:A.handled=none)(hit:s.heap.IsTupleIter it t i)(ht:s.heap.IsTuple t items)(hx:items[i]?=none)(hE:∀h' e,Heap.ExtBut it s.heap h'->(∃o,h'.get? e=some o/\o.cls=.type "StopIteration")->E (.ref e) {s with heap:=h'}):wpAny (model prog w) A (Builtin.SmallTypes.nextOf (.ref it)) Q E s:=by
 obtain⟨ob,e1,_,e2⟩:=id hit;obtain⟨ot,g1,_,m,g2⟩:=ht;unfold Builtin.SmallTypes.nextOf;refine aG (xu (name:=Str.ofString "__next__") hit.typeIs DT (jo DT hit.typeIs F.entry_tuple_iterator_next ?_ (F.args_tuple_iterator_next_1 _)));refine(show wpAny _ _ (field (.ref it) 0 >>= _) _ _ s from aG (gO e1 e2 (x:=.ref t) rfl (show wpAny _ _ (if(Value.ref t==Value.none)=true then _ else _) _ _ s from ?_)));rw[aK (by exact cG)];refine(show wpAny _ _ (field (.ref it) 1 >>= _) _ _ s from aG (gO e1 e2 (x:=.int i 0) rfl (show wpAny _ _ (seqItems? (.ref t) >>= _) _ _ s from aG (l7 g1 g2 ?_))));simp only[hx,dh];refine aG (iD (aG (EB e1 e2 (by simp) (show wpAny _ _ (newExc (.type "StopIteration") [] >>= _) _ _ _ from aG ?_))));simp only[newTuple,newExc];refine aG (jI (aG (m:=firstArgMember _ _) (wpAny_of_eq (a:=Value.none) (by first|rfl|(simp only[firstArgMember];rfl)) (jI ?_ (by size_fits)))) (by size_fits));simp only[raiseNew];refine aG (wpAny_handled ?_)
 first|rw[hh]|rw[show A.in1.handled=none from hh]
 exact aG (aS (wpAny_throw (hE _ _ (((rV ..).extBut.push _).push _) ⟨_,bK _ rfl,rfl⟩)))
def He{TI TO:JY}(hz:Ku s.heap z TI TO f0 b)(h:Q (.ref z) s):wpAny (model prog w) A (pyIter (.ref z)) Q E s:=by have ty:s.TypeIs (.ref z) "zip":=⟨_,hz,rfl⟩;exact Dx ty F.slot_zip_iter (jo F.slot_zip_iter ty F.entry_zip_iter (show wpAny _ _ (ret (.ref z)) _ _ s from aS ⟨_,rfl,"zip",_,ty,zu.lookup,h⟩) (F.args_zip_iter_1 _))
section
variable{K:Ni}{g:TG}
end
def Hi(b:Bool)(h:Heap)(l:JY)(xs:Array JZ):Prop:=if b=true then h.IsList l xs else h.IsTuple l xs
def GP(b:Bool)(h:Heap)(it l:JY)(i:Nat):Prop:=if b=true then h.IsListIter it l i else h.IsTupleIter it l i
section
variable{xs:Array JZ}
def Hi.at(q:Hi b h l xs)(k:∀o,h.get? l=some o->h'.get? l=some o):Hi b h' l xs:=by cases b<;>(obtain⟨o,e,r⟩:=q;exact⟨o,k o e,r⟩)
def Hi.lt(q:Hi b h l xs):l<h.objs.size:=by cases b<;>(obtain⟨o,e,r⟩:=q;exact bC e)
def GP.at(q:GP b h it l i)(k:∀o,h.get? it=some o->h'.get? it=some o):GP b h' it l i:=by cases b<;>(obtain⟨o,e,r⟩:=q;exact⟨o,k o e,r⟩)
def GP.ob(q:GP b h it l i):∃o,h.get? it=some o/\∀v,o.data≠.cell v:=by cases b<;>(obtain⟨o,e,c,d⟩:=q;exact⟨o,e,λv z=>by rw[d]at z;cases z⟩)
end
section
variable{ys:List V}
def â.Xl(I:â X bv Z H s)(h:oQ b X.K H a xs):∃aa:List JZ,aq xs aa/\Hi b s.heap a aa.toArray:=by
 cases b with
 |false=>obtain⟨aa,r,p,_⟩:=I.tuple (show bO X.K H a xs from h);exact⟨aa,r,p⟩
 |true=>obtain⟨aa,r,p,_⟩:=I.list (show aX X.K H a xs from h);exact⟨aa,r,p.isList⟩
def â.Ma(I:â X bv Z H s)(h:oQ b X.K H a xs)(h':oQ b X.K H a ys):xs=ys:=by
 cases b
 .exact I.qf h h'
 exact I.GX h h'
end
section
variable{u v:Bool}
def DA{t:JY}{x:JZ}(hit:GP u s.heap it t i)(ht:Hi u s.heap t items)(hx:items[i]?=some x)(hQ:∀h',GP u h' it t (i+1)->Heap.SameBut it s.heap h'->Q x {s with heap:=h'}):wpAny (model prog w) A (Builtin.SmallTypes.nextOf (.ref it)) Q E s:=by
 cases u
 .exact Kb hit ht hx hQ
 exact wpAny_nextOf_list_item hit ht hx hQ
def Mb{t:JY}(hh:A.handled=none)(hit:GP u s.heap it t i)(ht:Hi u s.heap t items)(hx:items[i]?=none)(hE:∀h' e,Heap.ExtBut it s.heap h'->(∃o,h'.get? e=some o/\o.cls=.type "StopIteration")->E (.ref e) {s with heap:=h'}):wpAny (model prog w) A (Builtin.SmallTypes.nextOf (.ref it)) Q E s:=by
 cases u
 .exact yk hh hit ht hx hE
 exact wpAny_nextOf_list_end hh hit ht hx hE
def Wh{TI TO T:JY}{Q:Unit->JX->Prop}(hz:Ku s.heap z TI TO f0 fb)(hf:Ap f0)(hQ:∀h' f1,Ku h' z TI TO f1 fb->Ap f1->Heap.SameBut z s.heap h'->Q () {s with heap:=h'}):
  wpAny (model prog w) A (letOwnedTupleGo tg (.ref z) (.ref T)) Q E s:=by
 have rF:Q () s:=hQ s.heap f0 hz hf (.refl _ _);have go:wpAny (model prog w) A (load z >>= λo=>match o.cls,o.data with
  |.type n,.fields vs=>if(["enumerate","zip","dict_itemiterator","dict_reverseitemiterator","odict_iterator","itertools.zip_longest","itertools.pairwise"].contains n&&vs[0]?==some (rawInt T))=true then rule "for.unpacks-the-owned-tuple" >>= λ_=>updateField z 0 .none else pure ()
  |_,_=>pure ()) Q E s:=by
  refine aG (wo hz ?_);show wpAny _ _ (if(_&&(#[f0,.bool fb,.bool false,.ref TI,.ref TO]:Array JZ)[0]?==some (rawInt T))=true then _ else _) Q E s;split
  .exact aG (iD (show wpAny _ _ (setField (.ref z) 0 .none) Q E s from kW hz (by simp) λh' Wg Rp=>hQ h' .none Wg (.inl rfl) Rp))
  exact aS rF
 unfold letOwnedTupleGo;split
 .exact go
 .exact go
 exact aS rF
def Nx{TI TO t:JY}{xs:Array JZ}{x y a b:JZ}(D:ZipApart z TI TO i1 i2 l t)(hz:Ku s.heap z TI TO f0 fb)(Rq:Ap f0)(Ny:IsPair s.heap TI (.ref i1) (.ref i2))(Nz:IsPair s.heap TO a b)(h1:GP u s.heap i1 l k)(h2:GP v s.heap i2 t k)(hl:Hi u s.heap l xs)(ht:Hi v s.heap t ys)(hx:xs[k]?=some x)(hy:ys[k]?=some y)(hQ:∀h' f1 fb' a' b',Ku h' z TI TO f1 fb'->Ap f1->IsPair h' TO a' b'->GP u h' i1 l (k+1)->GP v h' i2 t (k+1)->IsPair h' s.heap.objs.size x y ->
   (∀c o,c≠z->c≠TO->c≠i1->c≠i2->s.heap.get? c=some o->h'.get? c=some o)->Q (.ref s.heap.objs.size) {s with heap:=h'}):
  wpAny (model prog w) A (Builtin.«zip.__next__» ⟨[.ref z],[]⟩) (λfin s'=>∃v,fin=.done (.ret v)/\Q v s') E s:=by
 refine(show wpAny _ _ (field (.ref z) 2 >>= _) _ _ _ from aG (gO hz rfl (x:=.bool false) rfl ?_));refine(show wpAny _ _ (field (.ref z) 3 >>= _) _ _ _ from aG (gO hz rfl (x:=.ref TI) rfl (aG (l7 Ny rfl ?_))));refine(show wpAny _ _ (Builtin.SmallTypes.ownedTupleIsFree (.ref z) >>= _) _ _ _ from aG (Aq hz Rq ?_ λha Xm rj=>?_))
 .rw[aL (by rfl)];refine aG (iD (aG (gO hz rfl (x:=.ref TO) rfl (aG (kW hz (by simp) λha Xm rj=>aG ?_)))));have TB:Ku ha z TI TO .ellipsis fb:=Xm;simp only[wY,we,List.zipIdx_cons,List.zipIdx_nil];refine aG (aG (AD (show wpAny _ _ (Builtin.SmallTypes.nextOf (.ref i1) >>= _) _ _ _ from aG (DA (h1.at λo e=>rj.extBut _ o D.i1z e) (hl.at λo e=>rj.extBut _ o D.l1z e) hx λhb ZG rg=>aS ?_))));have to2:IsPair hb TO a b:=rg.extBut _ _ D.TOi1 (rj.extBut _ _ D.TOz Nz);refine aG (l7 to2 rfl (aG (Jw to2 λhc to3 AY=>aG (wpAny_letGo (aS ?_)))));have aCl:IsPair hc TO x b:=to3;refine aG (aG (AD (show wpAny _ _ (Builtin.SmallTypes.nextOf (.ref i2) >>= _) _ _ _ from aG
   (DA (h2.at λo e=>AY.extBut _ o D.TOi2.symm (rg.extBut _ o D.i12.symm (rj.extBut _ o D.i2z e))) (ht.at λo e=>AY.extBut _ o D.l2TO (rg.extBut _ o D.l2i1 (rj.extBut _ o D.l2z e))) hy λhd h2d JS=>aS ?_))))
  have to4:IsPair hd TO x b:=JS.extBut _ _ D.TOi2 aCl;refine aG (l7 to4 rfl (aG (Jw to4 λhe to5 ZH=>aG (wpAny_letGo (aS (aS ?_))))));have ZI:IsPair he TO x y:=to5;refine aG (l7 ZI rfl (aG (EC ?_)));have Hj:he.objs.size=s.heap.objs.size:=by rw[ZH.1,JS.1,AY.1,rg.1,rj.1]
  have z5:Ku he z TI TO .ellipsis fb:=ZH.extBut _ _ D.TOz.symm (JS.extBut _ _ D.i2z.symm (AY.extBut _ _ D.TOz.symm (rg.extBut _ _ D.i1z.symm TB)));have ltz:z<he.objs.size:=bC z5;refine(show wpAny _ _ (Builtin.SmallTypes.ownedTupleHandOut (.ref z) (.ref he.objs.size) >>= _) _ _ _ from aG ?_);unfold Builtin.SmallTypes.ownedTupleHandOut;have z6:Ku (he.push {cls:=.type "tuple",data:=.seq #[x,y]}) z TI TO .ellipsis fb:=bG _ z5;refine aG (kW z6 (by simp) λhf zf hsf=>?_);have zf':Ku hf z TI TO (rawInt he.objs.size) fb:=zf;refine kW zf' (by simp) λhg zg hsg=>?_;have up:∀c o,c≠z->he.get? c=some o->hg.get? c=some o:=λc o n1 e=>hsg.extBut _ _ n1 (hsf.extBut _ _ n1 (bG _ e));have U6:IsPair hg he.objs.size x y:=hsg.extBut _ _ (ju ltz) (hsf.extBut _ _ (ju ltz) (bK _ rfl));rw[Hj]at U6;refine aS ⟨_,rfl,(show Q (.ref he.objs.size) _ from ?_)⟩;rw[Hj];exact hQ hg _ _ _ _ zg (.inr ⟨_,_,rfl⟩) (up _ _ D.TOz ZI) (ZG.at λo e=>up _ o D.i1z (ZH.extBut _ o D.TOi1.symm (JS.extBut _ o D.i12 (AY.extBut _ o D.TOi1.symm e)))) (h2d.at λo e=>up _ o D.i2z (ZH.extBut _ o D.TOi2.symm e)) U6
   λc o n1 n2 n3 n4 e=>up c o n1 (ZH.extBut _ _ n2 (JS.extBut _ _ n4 (AY.extBut _ _ n2 (rg.extBut _ _ n3 (rj.extBut _ _ n1 e)))))
 rw[aK (by exact cG)];refine aG ?_;simp only[List.forIn_toArray,wY,we];refine aG (aG (gp (show wpAny _ _ (Builtin.SmallTypes.nextOf (.ref i1) >>= _) _ _ _ from aG (DA (h1.at λo e=>rj.extBut _ o D.i1z e) (hl.at λo e=>rj.extBut _ o D.l1z e) hx λhb ZG rg=>aS (aS ?_)))));refine aG (aG (gp (show wpAny _ _ (Builtin.SmallTypes.nextOf (.ref i2) >>= _) _ _ _ from aG (DA (h2.at λo e=>rg.extBut _ o D.i12.symm (rj.extBut _ o D.i2z e)) (ht.at λo e=>rg.extBut _ o D.l2i1 (rj.extBut _ o D.l2z e)) hy λhd h2d JS=>aS (aS (aS ?_))))));refine aG (EC ?_ (by show 2<=sizeLine;decide));have Hj:hd.objs.size=s.heap.objs.size:=by rw[JS.1,rg.1,rj.1]
 have up:∀c o,hd.get? c=some o->(hd.push {cls:=.type "tuple",data:=.seq #[x,y]}).get? c=some o:=λc o e=>bG _ e;refine aS ⟨_,rfl,(show Q (.ref hd.objs.size) _ from ?_)⟩;rw[Hj];refine hQ _ f0 true a b (up _ _ (JS.extBut _ _ D.i2z.symm (rg.extBut _ _ D.i1z.symm Xm))) Rq (up _ _ (JS.extBut _ _ D.TOi2 (rg.extBut _ _ D.TOi1 (rj.extBut _ _ D.TOz Nz)))) (ZG.at λo e=>up _ o (JS.extBut _ o D.i12 e)) (h2d.at λo e=>up _ o e) ?_ λc o n1 n2 n3 n4 e=>up _ _ (JS.extBut _ _ n4 (rg.extBut _ _ n3 (rj.extBut _ _ n1 e)));rw[<-Hj];exact bK _ rfl
def QB{TI TO t:JY}{xs:Array JZ}{a b:JZ}{Q:Fin->JX->Prop}(hh:A.handled=none)(D:ZipApart z TI TO i1 i2 l t)(hz:Ku s.heap z TI TO f0 fb)(Rq:Ap f0)(Ny:IsPair s.heap TI (.ref i1) (.ref i2))(Nz:IsPair s.heap TO a b)(h1:GP u s.heap i1 l k)(h2:GP v s.heap i2 t k)(hl:Hi u s.heap l xs)(ht:Hi v s.heap t ys)(hxy:xs[k]?=none\/(∃x,xs[k]?=some x)/\ys[k]?=none)(hE:∀h' e,(∀c o,c≠z->c≠TO->c≠i1->c≠i2->s.heap.get? c=some o->h'.get? c=some o)->(∃o,h'.get? e=some o/\o.cls=.type "StopIteration")->E (.ref e) {s with heap:=h'}):
  wpAny (model prog w) A (Builtin.«zip.__next__» ⟨[.ref z],[]⟩) Q E s:=by
 refine(show wpAny _ _ (field (.ref z) 2 >>= _) _ _ _ from aG (gO hz rfl (x:=.bool false) rfl ?_));refine(show wpAny _ _ (field (.ref z) 3 >>= _) _ _ _ from aG (gO hz rfl (x:=.ref TI) rfl (aG (l7 Ny rfl ?_))));refine(show wpAny _ _ (Builtin.SmallTypes.ownedTupleIsFree (.ref z) >>= _) _ _ _ from aG (Aq hz Rq ?_ λha Xm rj=>?_))
 .rw[aL (by rfl)];refine aG (iD (aG (gO hz rfl (x:=.ref TO) rfl (aG (kW hz (by simp) λha Xm rj=>aG ?_)))));have TB:Ku ha z TI TO .ellipsis fb:=Xm;have fin:∀hd e,Ku hd z TI TO .ellipsis fb->(∀c o,c≠z->c≠TO->c≠i1->c≠i2->s.heap.get? c=some o->hd.get? c=some o)->(∃o,hd.get? e=some o/\o.cls=.type "StopIteration")->wpAny (model prog w) A (setField (.ref z) 0 .none) (λ_ s'=>E (.ref e) s') E {s with heap:=hd}:=λhd e z2 kk ⟨oe,hoe,Xn⟩=>by have hez:e≠z:=λq=>(by subst q;rw[z2]at hoe;cases hoe;simp at Xn);exact kW z2 (by simp) λhc' _ ZJ=>hE hc' e (λc o n1 n2 n3 n4 q=>ZJ.extBut _ _ n1 (kk c o n1 n2 n3 n4 q)) ⟨oe,ZJ.extBut _ _ hez hoe,Xn⟩
  simp only[wY,we,List.zipIdx_cons,List.zipIdx_nil];have q1:=h1.at (h':=ha) λo e=>rj.extBut _ o D.i1z e;have q2:=hl.at (h':=ha) λo e=>rj.extBut _ o D.l1z e;rcases hxy with hx|⟨⟨x,hx⟩,hy⟩
  .exact aG (aG (AD (show wpAny _ _ (Builtin.SmallTypes.nextOf (.ref i1) >>= _) _ _ _ from aG (Mb hh q1 q2 hx λhb e rg he =>
    fin hb e (rg _ _ D.i1z.symm TB) (λc o n1 n2 n3 n4 q=>rg _ _ n3 (rj.extBut _ _ n1 q)) he))))
  refine aG (aG (AD (show wpAny _ _ (Builtin.SmallTypes.nextOf (.ref i1) >>= _) _ _ _ from aG (DA q1 q2 hx λhb ZG rg=>aS ?_))));have to2:IsPair hb TO a b:=rg.extBut _ _ D.TOi1 (rj.extBut _ _ D.TOz Nz);refine aG (l7 to2 rfl (aG (Jw to2 λhc to3 AY=>aG (wpAny_letGo (aS ?_)))));exact aG (aG (AD (show wpAny _ _ (Builtin.SmallTypes.nextOf (.ref i2) >>= _) _ _ _ from aG
   (Mb hh (h2.at λo e=>AY.extBut _ o D.TOi2.symm (rg.extBut _ o D.i12.symm (rj.extBut _ o D.i2z e))) (ht.at λo e=>AY.extBut _ o D.l2TO (rg.extBut _ o D.l2i1 (rj.extBut _ o D.l2z e))) hy λhd e JS he =>
    fin hd e (JS _ _ D.i2z.symm (AY.extBut _ _ D.TOz.symm (rg.extBut _ _ D.i1z.symm TB))) (λc o n1 n2 n3 n4 q=>JS _ _ n4 (AY.extBut _ _ n2 (rg.extBut _ _ n3 (rj.extBut _ _ n1 q)))) he))))
 rw[aK (by exact cG)];refine aG ?_;simp only[List.forIn_toArray,wY,we];have q1:=h1.at (h':=ha) λo e=>rj.extBut _ o D.i1z e;have q2:=hl.at (h':=ha) λo e=>rj.extBut _ o D.l1z e;rcases hxy with hx|⟨⟨x,hx⟩,hy⟩
 .exact aG (aG (gp (show wpAny _ _ (Builtin.SmallTypes.nextOf (.ref i1) >>= _) _ _ _ from aG (Mb hh q1 q2 hx λhb e rg he=>hE hb e (λc o n1 n2 n3 n4 q=>rg _ _ n3 (rj.extBut _ _ n1 q)) he))))
 refine aG (aG (gp (show wpAny _ _ (Builtin.SmallTypes.nextOf (.ref i1) >>= _) _ _ _ from aG (DA q1 q2 hx λhb ZG rg=>aS (aS ?_)))));exact aG (aG (gp (show wpAny _ _ (Builtin.SmallTypes.nextOf (.ref i2) >>= _) _ _ _ from aG (Mb hh (h2.at λo e=>rg.extBut _ o D.i12.symm (rj.extBut _ o D.i2z e)) (ht.at λo e=>rg.extBut _ o D.l2i1 (rj.extBut _ o D.l2z e)) hy λhd e JS he=>hE hd e (λc o n1 n2 n3 n4 q=>JS _ _ n4 (rg.extBut _ _ n3 (rj.extBut _ _ n1 q))) he))))
end
def itN(b:Bool):String:=if b=true then "list_iterator"else "tuple_iterator"
abbrev gA(u:Bool)(h:Heap)(l:JY):Heap:=h.push {cls:=.type (itN u),data:=.fields #[.ref l,.int 0 0]}
abbrev gC(u v:Bool)(h:Heap)(l t:JY):Heap:=(gA v (gA u h l) t).push {cls:=.type "tuple",data:=.seq #[.ref h.objs.size,.ref (gA u h l).objs.size]}
abbrev gD(u v:Bool)(h:Heap)(l t:JY):Heap:=(gC u v h l t).push {cls:=.type "tuple",data:=.seq #[.none,.none]}
abbrev gE(u v:Bool)(h:Heap)(l t:JY):Heap:=(gD u v h l t).push {cls:=.type "zip",data:=.fields #[.none,.bool false,.bool false,.ref (gA v (gA u h l) t).objs.size,.ref (gC u v h l t).objs.size]}
def Mc{u:Bool}{xs:Array JZ}(hl:Hi u s.heap l xs)(h:Q (.ref s.heap.objs.size) {s with heap:=gA u s.heap l}):wpAny (model prog w) A (pyIter (.ref l)) Q E s:=by
 cases u
 .exact Dm hl h
 exact tQ hl h
def Kv(u v:Bool)(l t:JY)(xs ys:Array JZ):Meets (Builtin.«zip.__new__» ⟨[.type "zip",.ref l,.ref t],[]⟩) (λ_ R s=>Hi u s.heap l xs/\Hi v s.heap t ys/\R (.ok (.ret (.ref (gD u v s.heap l t).objs.size))) {s with heap:=gE u v s.heap l t}) :=
 .of_wp λprog w A R s h=>by
  obtain⟨hp,g,d,tk,os⟩:=s;obtain⟨hl,ht,h⟩:=h;have aG0:=sub_zip;have e1:Hi u (Shared.heap ⟨hp,g,d,tk,os⟩) l xs:=hl;have e2:Hi v (Shared.heap ⟨gA u hp l,g,d,tk,os⟩) t ys:=ht.at λo e=>bG _ e
  wp_walk using Mc e1,Mc e2
  exact⟨_,rfl,h⟩
def Itg(K:Ni)(u v:Bool)(a b:JY):It :=
 ⟨λi H=>∃xs ys x y,oQ u K H a xs/\oQ v K H b ys/\xs[i]?=some x/\ys[i]?=some y,
  λi H w H'=>∃p x y,H p=none/\w=.ref p/\H'=ü H p (.tup [x,y])/\(∀xs,oQ u K H a xs->xs[i]?=some x)/\∀ys,oQ v K H b ys->ys[i]?=some y,
  λi H=>∃xs ys,oQ u K H a xs/\oQ v K H b ys/\(xs.length<=i\/i<xs.length/\ys.length<=i)⟩
def N0{P:Ja}{K:Ni}{u v:Bool}{TI TO l1 l2:JY}(D:ZipApart z TI TO i1 i2 l1 l2):
  î P w K tg (Itg K u v l1 l2) [z,TI,TO,i1,i2] z (λi h=>(∃f0 fb,Ku h z TI TO f0 fb/\Ap f0)/\IsPair h TI (.ref i1) (.ref i2)/\(∃a b,IsPair h TO a b)/\GP u h i1 l1 i/\GP v h i2 l2 i)where
 mem:=by simp
 obj:=λi h st b hb=>by
  obtain⟨⟨f0,fb,hz,_⟩,Ny,⟨a,b',Nz⟩,h1,h2⟩:=st;simp only[au,bE,dJ]at hb;rcases hb with rfl|rfl|rfl|rfl|rfl
  .exact⟨_,hz,λv q=>by cases q⟩
  .exact⟨_,Ny,λv q=>by cases q⟩
  .exact⟨_,Nz,λv q=>by cases q⟩
  .exact h1.ob
  exact h2.ob
 keep:=λi h h' st k=>by obtain⟨⟨f0,fb,hz,hf⟩,Ny,⟨a,b',Nz⟩,h1,h2⟩:=st;exact⟨⟨f0,fb,k z (by simp) _ hz,hf⟩,k TI (by simp) _ Ny,⟨a,b',k TO (by simp) _ Nz⟩,h1.at λo e=>k i1 (by simp) o e,h2.at λo e=>k i2 (by simp) o e⟩
 item:=by
  intro X hP hw hK hc i bv s Z H E I hf st hg;subst hP hw hK;obtain⟨⟨f0,fb,hz,Rq⟩,Ny,⟨a,b,Nz⟩,h1,h2⟩:=st;obtain⟨xs,ys,x,y,hx,hy,ex,ey⟩:=hg;obtain⟨aa,rv,p⟩:=I.Xl hx;obtain⟨gu,rv2,p2⟩:=I.Xl hy;obtain⟨u,hu,ru⟩:=rv.get ex;obtain⟨u2,TC,ru2⟩:=rv2.get ey;have hT:s.TypeIs (.ref z) "zip":=⟨_,hz,rfl⟩;unfold pyNext;refine aG (AE (xu (name:=Str.ofString "__next__") hT zu (jo zu hT F.entry_zip_next
   (Nx D hz Rq Ny Nz h1 h2 p p2 (x:=u) (y:=u2) (by simpa using hu) (by simpa using TC) λh' f1 fb' a' b' a1 af a2 a3 a4 a5 kk=>aS ⟨_,rfl,Wh a1 af λh2' f2 Wg hf2 Rp=>?_⟩) (F.args_zip_next_1 _))))
  have lt:∀{c o},s.heap.get? c=some o->s.heap.objs.size≠c:=λe=>ju (bC e);have k2:∀c o,c∉[z,TI,TO,i1,i2]->s.heap.get? c=some o->h2'.get? c=some o:=λc o hc e=>by simp only[au,bE,dJ,not_or]at hc;exact Rp.extBut _ _ hc.1 (kk c o hc.1 hc.2.2.1 hc.2.2.2.1 hc.2.2.2.2 e)
  have tup:cY X.prog X.w (ü H s.heap.objs.size (.tup [x,y])) h2' s.heap.objs.size (.tup [x,y]) :=
   ⟨by show 2<=sizeLine;decide,[u,u2],.cons ru (.cons ru2 .nil),⟨_,Rp.extBut _ _ (lt hz) a5,rfl,_,rfl⟩⟩
  have hn:=I.cI.fresh (ae s.heap.objs.size);refine⟨.ref s.heap.objs.size,_,I.NX (t':=s.toks) k2 hf (ae _) tup,rfl,⟨_,x,y,hn,rfl,rfl,λzs hq=>by rw[I.Ma hq hx];exact ex,λzs hq=>by rw[I.Ma hq hy];exact ey⟩,
   ⟨⟨f2,fb',Wg,hf2⟩,Rp.extBut _ _ D.TIz (kk _ _ D.TIz D.TITO D.TIi1 D.TIi2 Ny),⟨_,_,Rp.extBut _ _ D.TOz a2⟩,a3.at λo e=>Rp.extBut _ o D.i1z e,a4.at λo e=>Rp.extBut _ o D.i2z e⟩,λc hc=>?_⟩
  have hcn:c≠s.heap.objs.size:=by
   simp only[au,bE,dJ]at hc;obtain⟨o1,e1,_⟩:=h1.ob;obtain⟨o2,e2,_⟩:=h2.ob;rcases hc with rfl|rfl|rfl|rfl|rfl
   .exact(lt hz).symm
   .exact(lt Ny).symm
   .exact(lt Nz).symm
   .exact(lt e1).symm
   exact(lt e2).symm
  rw[aN hcn];exact(hf c hc).1
 done:=by
  intro X hP hw hK hc i bv s Z H E I hf st hg;subst hP hw hK;obtain⟨⟨f0,fb,hz,Rq⟩,Ny,⟨a,b,Nz⟩,h1,h2⟩:=st;obtain⟨xs,ys,hx,hy,he⟩:=hg;obtain⟨aa,rv,p⟩:=I.Xl hx;obtain⟨gu,rv2,p2⟩:=I.Xl hy;have l1':=rv.length;have l2':=rv2.length;have hT:s.TypeIs (.ref z) "zip":=⟨_,hz,rfl⟩;unfold pyNext;refine aG (AE (xu (name:=Str.ofString "__next__") hT zu (jo zu hT F.entry_zip_next (QB (I.ok.hd hc) D hz Rq Ny Nz h1 h2 p p2 (by
   rcases he with h|⟨h,h'⟩
   .exact .inl (by simp;lia)
   exact .inr ⟨⟨aa[i]'(by lia),by simp[show i<aa.length by lia]⟩,by simp;lia⟩) λh' e hk he=>?_) (F.args_zip_next_1 _))))
  obtain⟨o,ho,Xn⟩:=he;refine aG (wc (T:="StopIteration") (b:=true) ⟨o,ho,Xn⟩ isSubtype_stop (aS ⟨rfl,I.SN (t':=s.toks) (ch:=[z,TI,TO,i1,i2]) (λc o hc e=>?_) hf⟩));simp only[au,bE,dJ,not_or]at hc;exact hk c o hc.1 hc.2.2.1 hc.2.2.2.1 hc.2.2.2.2 e
 self:=λ_ _ _ _ _ st h=>by obtain⟨⟨f0,fb,hz,_⟩,_⟩:=st;exact He hz h
def ZK(K:Ni)(ta:TA):TI:=λZ H R=>ta Z H λvs H1=>∃(u v:Bool)(a b:JY),vs=[.ref a,.ref b]/\(∃xs,oQ u K H1 a xs)/\(∃ys,oQ v K H1 b ys)/\R (Itg K u v a b) H1
def vP(K:Ni){e1 e2:Expr}{p:Pos}(hg:Gl X "zip")(hm:X.mg "zip"=none)(ha:PA X [e1,e2] ta)(hK:X.K=K:=by rfl)(hs:starEach [e1,e2] X.env=(false,eval e1 X.env)::starEach [e2] X.env:=by rfl)(GL:(backTo pos (starEach [e2] X.env)).any (·.1)=false:=by rfl):
  PI X tg (.Call (.Name "zip" p) [e1,e2] [] pos) (ZK K ta):=by
 subst hK;intro bv s Z H R I h;refine oj (mh I hg hm boot_zip ?_ (by decide) (by decide));refine xq (cC (ha pos bv s Z H _ I h) λus s1 h_=>?_) hs GL;obtain⟨vs,H1,I1,r1,q1⟩:=h_;obtain⟨u,v,a,b,rfl,⟨xs,hx⟩,⟨ys,hy⟩,q⟩:=q1;obtain⟨_,_,rfl,ru,rv⟩:=r1.two;cases ru;cases rv;obtain⟨aa,_,p1⟩:=I1.Xl hx;obtain⟨gu,_,p2⟩:=I1.Xl hy;refine callType_new F.called_zip (by decide) (F.typeCall_zip_2 _ _) (F.newCall_zip_2 _ _) (λobj=>F.args_object_init_3 obj _ _) F.entry_zip_new (Kv u v a b aa.toArray gu.toArray) ⟨p1,p2,?_⟩;have z1:(gA u s1.heap a).objs.size=s1.heap.objs.size+1:=ib ..;have z2:(gA v (gA u s1.heap a) b).objs.size=s1.heap.objs.size+2:=by rw[ib,z1]
 have z3:(gC u v s1.heap a b).objs.size=s1.heap.objs.size+3:=by rw[ib,z2]
 have z4:(gD u v s1.heap a b).objs.size=s1.heap.objs.size+4:=by rw[ib,z3]
 have up:∀{g:Heap}{o p:Obj}{c:JY},g.get? c=some o->(g.push p).get? c=some o:=λe=>bG _ e;have g5:(gE u v s1.heap a b).get? (gD u v s1.heap a b).objs.size=some _:=bK _ rfl;have g4:(gE u v s1.heap a b).get? (gC u v s1.heap a b).objs.size=some _:=up (bK _ rfl);have g3:(gE u v s1.heap a b).get? (gA v (gA u s1.heap a) b).objs.size=some _:=up (up (bK _ rfl));have g2:GP v (gE u v s1.heap a b) (gA u s1.heap a).objs.size b 0:=by cases v<;>exact⟨_,up (up (up (bK _ rfl))),rfl,rfl⟩
 have g1:GP u (gE u v s1.heap a b) s1.heap.objs.size a 0:=by cases u<;>exact⟨_,up (up (up (up (bK _ rfl)))),rfl,rfl⟩
 show _/\_;rw[z2,z3,z4]at g5;rw[z1,z2]at g3;rw[z3]at g4;rw[z1]at g2;rw[z4];refine⟨⟨_,g5,rfl⟩,He g5 ?_⟩;refine⟨s1.heap.objs.size+4,[s1.heap.objs.size+4,s1.heap.objs.size+2,s1.heap.objs.size+3,s1.heap.objs.size,s1.heap.objs.size+1],_,_,H1,rfl,I1.kept (t':=s1.toks) λb o e=>up (up (up (up (up e)))),N0 (zipApart_new p1.lt p2.lt),⟨⟨_,_,g5,.inl rfl⟩,g3,⟨_,_,g4⟩,g1,g2⟩,λc hc=>?_,q⟩;have hle:s1.heap.objs.size<=c:=by simp only[au,bE,dJ]at hc;rcases hc with rfl|rfl|rfl|rfl|rfl<;>first|exact Nat.le_add_right _ _|exact ae _
 exact I1.yb (H':=H1) hle (I1.cI.fresh hle)
section
variable{K:Ni}{g:TG}{Q:VK}{u v:Bool}{b:JY}{ys:List V}
def Er(lc:xs.length=ys.length)(Pv:Nat->St->Hp->Prop)(h0:Pv 0 Z H)(hl:∀i Z H,i<=xs.length->Pv i Z H->oQ u K H a xs/\oQ v K H b ys)(hs:∀(i:Nat)(x y:V)(p:JY)(Z:St)(H:Hp)(N:St->Hp->Prop),(∀Z H,Pv (i+1) Z H->N Z H)->xs[i]?=some x->ys[i]?=some y->Pv i Z H->H p=none->g (.ref p) Z (ü H p (.tup [x,y])) (Lb tt te D N))(hd:∀Z H,Pv xs.length Z H->Q (.ref D) H):oP (Itg K u v a b) g tt te D Z H Q:=by refine yA xs.length Pv h0 (λi Z H N hN lt p=>?_) λZ H p=>⟨⟨xs,ys,(hl _ Z H (ae _) p).1,(hl _ Z H (ae _) p).2,.inl (ae _)⟩,hd Z H p⟩;obtain⟨q1,q2⟩:=hl i Z H (gT lt) p;refine⟨⟨xs,ys,xs[i],ys[i]'(by lia),q1,q2,by simp[lt],by simp⟩,?_⟩;rintro x H2 ⟨pp,x1,y1,hn,rfl,rfl,ex,ey⟩;exact hs i x1 y1 pp Z _ N hN (ex xs q1) (ey ys q2) p hn
def Hk{D:ï}(n:Nat)(n1:n<=xs.length)(n2:n<=ys.length)(n3:xs.length<=n\/n<xs.length/\ys.length<=n)(Pv:Nat->St->Hp->Prop)(h0:Pv 0 Z H)(hl:∀i Z H,i<=n->Pv i Z H->oQ u K H a xs/\oQ v K H b ys)(hs:∀(i:Nat)(x y:V)(p:JY)(Z:St)(H:Hp),xs[i]?=some x->ys[i]?=some y->Pv i Z H->H p=none->g (.ref p) Z (ü H p (.tup [x,y])) (Bf tb D (Pv (i+1))))(hd:∀Z H,Pv n Z H->D.nx Z H):EO (Itg K u v a b) g tb D Z H:=by refine o3 n Pv h0 (λi Z H lt p=>?_) λZ H p=>⟨⟨xs,ys,(hl _ Z H (ae _) p).1,(hl _ Z H (ae _) p).2,n3⟩,hd Z H p⟩;obtain⟨q1,q2⟩:=hl i Z H (gT lt) p;refine⟨⟨xs,ys,xs[i]'(by lia),ys[i]'(by lia),q1,q2,by simp,by simp⟩,?_⟩;rintro x H2 ⟨pp,x1,y1,hn,rfl,rfl,ex,ey⟩;exact hs i x1 y1 pp Z _ (ex xs q1) (ey ys q2) p hn
end
abbrev RI:=JY×ä×JZ×JZ
def stI(ÿ:List (ä×JZ))(q:RI):List (ä×JZ):=stored ÿ q.2.1 q.2.2.2
def Md:∀(m:List RI)(ÿ:List (ä×JZ)),(m.foldl stI ÿ).length<=ÿ.length+m.length
 |[],_=>ae _
 |q::m,ÿ=>by
  have h1:=Md m (stI ÿ q);have h2:(stI ÿ q).length<=ÿ.length+1:=by
   unfold stI stored;split
   .rw[aJ];lia
   simp
  rw[wZ,cQ];lia
section
variable{d:JY}{L:List RI}
def N3(hu:A.units+3<cLine)(hh:A.handled=none)(hL:h0.IsList l (L.map λq=>Value.ref q.1).toArray)(hq:∀q∈L,h0.IsTuple q.1 #[q.2.2.1,q.2.2.2]/\(aw prog w).is q.2.1 q.2.2.1=true)(hd:h0.objs.size<=d)(hi:h0.objs.size<=it)(hdi:d≠it)(hz:L.length<=sizeLine):
  ∀(û done:List RI)(s:JX)(R:Result->JX->Prop),L=done++û->(∀b o,h0.get? b=some o->s.heap.get? b=some o)->s.heap.IsListIter it l done.length ->
   s.heap.DictOf (aw prog w) d (done.foldl stI []) ->
   (∀h' tk,(∀b o,h0.get? b=some o->h'.get? b=some o)->h'.DictOf (aw prog w) d (L.foldl stI [])->R (.ok (.ret .none)) {s with heap:=h',toks:=tk}) ->
   codeAny (model prog w) A (.builtin "dict.update.loop" ⟨[.ref d,.ref it,rawInt done.length,.none],[]⟩) R s:=by
 intro û;have olds:∀{h h':Heap}{x:JY},h0.objs.size<=x->(∀b o,h0.get? b=some o->h.get? b=some o)->Heap.ExtBut x h h'->∀b o,h0.get? b=some o->h'.get? b=some o :=
  λhx k e b o hb=>e b o (λz=>absurd (bC hb) (by rw[z];exact AG.mpr hx)) (k b o hb)
 obtain⟨ol,Kw,zl⟩:=hL
 induction û with
 |nil =>
  intro done s R e k hit dd hR;rw[tT]at e;subst e;refine oN C3 ?_;rw[um qi _];refine(show wpAny _ A.in1 (pyNext (.ref it) >>= _) _ _ s from aG (wpAny_pyNext_list_end hh hit ⟨ol,k _ _ Kw,zl⟩ (by simp) λh' eb=>?_));exact(show wpAny _ A.in1 (Builtin.Dict.addKeywords d [] >>= _) _ _ _ from aG (aS (aS (hR h' s.toks (olds hi k eb) (dd.extBut eb hdi)))))
 |cons q û ih =>
  intro done s R e k hit dd hR;refine oN C3 ?_;rw[um qi _];have hx:(L.map λq=>Value.ref q.1).toArray[done.length]?=some (.ref q.1):=by rw[e];simp
  refine(show wpAny _ A.in1 (pyNext (.ref it) >>= _) _ _ s from aG (wpAny_pyNext_list_item hit ⟨ol,k _ _ Kw,zl⟩ hx λh' Si hs=>?_));have k':=olds hi k hs.extBut;obtain⟨⟨ot,hot,hct,nt,hdt⟩,KD⟩:=hq q (by rw[e];simp);have Pj:=dd.extBut hs.extBut hdi;refine(show wpAny _ A.in1 (holding [Value.ref q.1] _ >>= _) _ _ _ from aG (gp (aG (wpAny_tryCatch ?_))));unfold Builtin.Dict.pairItems;refine aG (tX (T:="tuple") ⟨ot,k' _ _ hot,hct⟩ (ky (λ_=>?_) (λz=>absurd (by decide) z)));refine aG (l7 (k' _ _ hot) hdt (aS ?_));have hle:=Md done [];have hll:done.length+(û.length+1)=L.length:=by rw[e];simp
  have hle:(done.foldl stI []).length<=done.length:=by simpa using hle
  refine(show wpAny _ A.in1 (holding [q.2.2.1,q.2.2.2] (dictSet d q.2.2.1 q.2.2.2)) _ _ _ from gp (wpAny_dictSet_pairs (hsz:=by lia) KD Pj λh2 WJ By=>?_));refine aS ⟨lA qi _,?_⟩;have aCq:h2.IsListIter it l (done.length+1):=by obtain⟨oi,hoi,zi⟩:=Si;exact⟨oi,(By.2 it (bS hdi)).trans hoi,zi⟩
  have hr:rawInt ((done.length:Int)+1)=rawInt ((done++[q]).length:Int):=by simp
  rw[hr];refine ih (done++[q]) _ R (by rw[e];simp) (olds hd k' By.extBut) (by simpa using aCq) (by simpa[stI]using WJ) λh3 tk k3 dd3=>?_;exact hR h3 tk k3 dd3
end
abbrev VI:=JY×ä×V
def Oo(ÿ:List (ä×V))(q:VI):List (ä×V):=io ÿ q.2.1 q.2.2
abbrev PI':List VI->List RI->Prop:=Paired λp q=>p.1=q.1/\p.2.1=q.2.1/\æ (kV p.2.1) q.2.2.1/\æ p.2.2 q.2.2.2
def PI'.fold{L:List VI}{M:List RI}(r:PI' L M):∀{ÿ:List (ä×V)}{i9:List (ä×JZ)},KV ÿ i9->KV (L.foldl Oo ÿ) (M.foldl stI i9):=by
 induction r with
 |nil=>intro ÿ i9 h;exact h
 |@cons p q ps qs h t ih =>
  intro ÿ i9 ha;rw[wZ,wZ];refine ih ?_;have:=ha.put p.2.1 h.2.2.2;unfold Oo stI;rw[<-h.2.1];exact this
def Me:∀(m:List VI)(ÿ:List (ä×V)),(m.foldl Oo ÿ).length<=ÿ.length+m.length
 |[],_=>ae _
 |q::m,ÿ=>by have h1:=Me m (Oo ÿ q);have h2:(Oo ÿ q).length<=ÿ.length+1:=ke _ _ _;rw[wZ,cQ];lia
def ZL(I:â X bv Z H s):∀(L:List VI),(∀q∈L,bO X.K H q.1 [kV q.2.1,q.2.2]) ->
  ∃M:List RI,PI' L M/\(∀q∈M,s.heap.IsTuple q.1 #[q.2.2.1,q.2.2.2]/\(aw X.prog X.w).is q.2.1 q.2.2.1=true)/\∀aa,aq (L.map λq=>V.ref q.1) aa->aa=M.map λq=>Value.ref q.1
 |[],_=>⟨[],.nil,λq hq=>absurd hq bE,λaa h=>by cases h;rfl⟩
 |p::L,h=>by
  obtain⟨M,r,hM,hv⟩:=ZL I L λq hq=>h q (bU _ hq);obtain⟨aa,rv,ht,_⟩:=I.tuple (h p bp);cases rv with
  |@cons _ u _ _ r1 rv =>
   cases rv with
   |@cons _ u2 _ _ r2 rv =>
    cases rv;refine⟨(p.1,p.2.1,u,u2)::M,.cons ⟨rfl,rfl,r1,r2⟩ r,λq hq=>?_,λaa hi=>?_⟩
    .rcases au.mp hq with e|hq
     .subst e;exact⟨ht,Ae r1⟩
     exact hM q hq
    cases hi with
    |cons q1 qv =>
     cases q1;rw[hv _ qv,bz]
def ZM(K:Ni):List V->Hp->VK->Prop:=λvs H Q=>∃(l:JY)(L:List VI),vs=[V.ref l]/\H l=some (.lst (L.map λq=>V.ref q.1))/\(∀q∈L,bO K H q.1 [kV q.2.1,q.2.2])/\∀p,H p=none->Q (.ref p) (ü H p (.dK (L.foldl Oo [])))
def Kx(K:Ni)(hu:X.A.units+16<cLine)(hK:X.K=K:=by rfl)(hc:X.calm=true:=by rfl):dt X (.type "dict") (ZM K):=by
 subst hK;intro bv s Z H vs us Q I r h;obtain⟨l,L,rfl,hl,hq,q⟩:=h;obtain⟨u,rfl,ru⟩:=é r;cases ru;obtain⟨M,rM,hM,hv⟩:=ZL I L hq;obtain⟨aa,n,rv,ho,hz⟩:=I.lst hl;obtain rfl:=hv _ rv;rw[aJ]at hz;have lc:L.length=M.length:=md rM;refine callType_codes (Q₁:=λobj s₁=>obj=.ref s.heap.objs.size/\s₁={s with heap:=s.heap.push ox}) F.kt_called_dict (F.kt_typeCall_dict_1 _) F.entry_dict_init (kt_code_dict_new _ ⟨rfl,rfl⟩) ?_;rintro obj s₁ ⟨rfl,rfl⟩;have yc:(s.heap.push ox).get? s.heap.objs.size=some ox:=bK _ rfl;have hT:(⟨s.heap.push ox,s.gens,s.drawn,s.toks,s.os⟩:JX).TypeIs (.ref s.heap.objs.size) "dict":=⟨_,yc,rfl⟩;refine⟨hT,F.args_dict_init_2 _ _,?_⟩;unfold Builtin.«dict.__init__»;refine aG ?_;unfold Builtin.Dict.selfAndRest;refine aG (wpAny_notOrdered_dict hT (show wpAny _ _ (pure (s.heap.objs.size,[Value.ref l])) _ _ _ from aS (show wpAny _ _ (Builtin.Dict.updateFrom "dict.__init__" s.heap.objs.size (.ref l) [] .none) _ _ _ from ?_)));unfold Builtin.Dict.updateFrom;have Xj:(s.heap.push ox).get? l=some {cls:=.type "list",data:=.seq (M.map λq=>Value.ref q.1).toArray n}:=bG _ ho
 refine aG (tX (T:="list") ⟨_,Xj,rfl⟩ (ky (λ_=>?_) (λz=>absurd (by decide) z)));refine aG (Nj (xs:=(M.map λq=>Value.ref q.1).toArray) (k:=n) Xj (I.ok.hd hc) λh2 tk2 k2=>ky (λ_=>aG (iD ?_)) (λz=>absurd rfl z));have Gf:h2.IsList l (M.map λq=>Value.ref q.1).toArray:=⟨_,k2 _ _ Xj,rfl,n,rfl⟩;refine aG (tQ Gf ?_);have k0:∀b o,s.heap.get? b=some o->(h2.push {cls:=.type "list_iterator",data:=.fields #[.ref l,.int 0 0]}).get? b=some o:=λb o e=>bG _ (k2 b o (bG _ e));have ZN:s.heap.objs.size<h2.objs.size:=bC (k2 _ _ yc);refine aS ⟨lA qi _,?_⟩;refine(show codeAny _ _ (.builtin "dict.update.loop" ⟨[.ref s.heap.objs.size,.ref h2.objs.size,rawInt (([]:List RI).length:Nat),.none],[]⟩) _ _ from ?_);have Yu:X.A.in1.units+3<cLine:=by show X.A.units+1+3<cLine;lia
 refine N3 (h0:=s.heap) (L:=M) (l:=l) (A:=X.A.in1) Yu (I.ok.hd hc) ⟨_,ho,rfl,n,rfl⟩ hM (ae _) (gT ZN) (cg ZN) (by lia) M [] _ _ rfl k0 ?_ ?_ ?_
 .exact(show(h2.push {cls:=.type "list_iterator",data:=.fields #[.ref l,.int 0 0]}).IsListIter h2.objs.size l 0 from⟨_,bK _ rfl,rfl,rfl⟩)
 .refine(show(h2.push {cls:=.type "list_iterator",data:=.fields #[.ref l,.int 0 0]}).DictOf (aw X.prog X.w) s.heap.objs.size []from ?_);exact⟨_,#[],0,bG _ (k2 _ _ yc),⟨rfl,rfl,rfl⟩,rfl,(λx hx=>by simp at hx),.nil,zp⟩
 intro h3 tk3 k3 dd;have hle:=Me L [];refine⟨rfl,.ref s.heap.objs.size,_,I.laid (a:=s.heap.objs.size) (o:=.dK (L.foldl Oo [])) (t':=tk3) k3 (ae _) ?_,rfl,q _ (I.cI.fresh (ae _))⟩;have hle:(L.foldl Oo []).length<=L.length:=by simpa using hle
 exact Kc (by lia) (tK.mpr (bS (cg I.big))) (PI'.fold rM .nil) dd
structure Bw(b:Bool)(t:SetTable):Prop where
 led:t.led=b
 dum:t.dummies=#[]
 Hl:t.place.toList.Pairwise (·<·)
def Ar(xs:Array Nat)(j:Nat)(Hl:xs.toList.Pairwise (·<·)):∀(fuel lo hi:Nat),lo<=hi->hi<=xs.size->hi-lo<=fuel->(∀(i x:Nat),i<lo->xs[i]?=some x->x<j)->(∀(i x:Nat),hi<=i->xs[i]?=some x->j<=x) ->
  (∀(i x:Nat),i<SetTable.below.go xs j fuel lo hi->xs[i]?=some x->x<j)/\(∀(i x:Nat),SetTable.below.go xs j fuel lo hi<=i->xs[i]?=some x->j<=x)/\SetTable.below.go xs j fuel lo hi<=xs.size
 |0,lo,hi,h1,h2,h3,a,b=>by
  unfold SetTable.below.go;obtain rfl:lo=hi:=by lia
  exact⟨a,b,h2⟩
 |fuel+1,lo,hi,h1,h2,h3,a,b=>by
  unfold SetTable.below.go;by_cases c:lo<hi
  .rw[aL c];have ml:(lo+hi)/2<xs.size:=(by lia);have em:xs[(lo+hi)/2]?=some xs[(lo+hi)/2]:=(by simp[ml]);have eg:xs.getD ((lo+hi)/2) j=xs[(lo+hi)/2]:=(by simp[Array.getD,ml]);have le:∀{i k x y:Nat},i<=k->xs[i]?=some x->xs[k]?=some y->x<=y:=λ{i k x y} hik hx hy=>by
    obtain⟨i1,e1⟩:=zR.mp hx;obtain⟨k1,e2⟩:=zR.mp hy;rcases Jv hik with c|c
    .have:=zS.mp Hl i k (by simpa using i1) (by simpa using k1) c;simp[e1,e2]at this;lia
    subst c;rw[hx]at hy;cases hy;exact ae _
   dsimp only;rw[eg];by_cases c2:xs[(lo+hi)/2]<j
   .simp only[aL c2];exact Ar xs j Hl fuel _ hi (by lia) h2 (by lia) (λi x oW hx=>by have:=le (show i<=(lo+hi)/2 by lia) hx em;lia) b
   simp only[aK c2];exact Ar xs j Hl fuel lo _ (by lia) (by lia) (by lia) a (λi x oW hx=>by have:=le oW em hx;lia)
  rw[aK c];obtain rfl:lo=hi:=by lia
  exact⟨a,b,h2⟩
def Hm{xs:Array Nat}(j:Nat)(Hl:xs.toList.Pairwise (·<·)):(∀(i x:Nat),i<SetTable.below xs j->xs[i]?=some x->x<j)/\(∀(i x:Nat),SetTable.below xs j<=i->xs[i]?=some x->j<=x)/\SetTable.below xs j<=xs.size:=by unfold SetTable.below;refine Ar xs j Hl xs.size 0 xs.size (bt _) (ae _) (by lia) (λi x h=>by lia) λi x h e=>?_;have:=(zR.mp e).1;lia
def Ky{xs:Array Nat}(Hl:xs.toList.Pairwise (·<·))(ne:xs[SetTable.below xs j]?≠some j):(SetTable.insertAt xs (SetTable.below xs j) j).toList.Pairwise (·<·):=by
 obtain⟨h1,h2,h3⟩:=Hm j Hl;rw[SetTable.toList_insertAt];generalize SetTable.below xs j=p at h1 h2 h3 ne;have up:∀x∈xs.toList.drop p,j<x:=λx hx=>by
  obtain⟨k,hk,rfl⟩:=eU hx;rw[mX]at hk;have kl:p+k<xs.size:=by simp at hk;lia
  have e:xs[p+k]?=some xs[p+k]:=by simp[kl]
  have:=h2 (p+k) _ (by lia) e;rw[List.getElem_drop];simp only[Array.getElem_toList];rcases Jv this with c|c
  .exact c
  exfalso;rcases Nat.eq_zero_or_pos k with z|z
  .subst z;exact ne (by rw[show p=p+0 by rfl,e,<-c])
  have pl:p<xs.size:=by lia
  have ep:xs[p]?=some xs[p]:=by simp[pl]
  have a:=h2 p _ (ae _) ep;have b:=zS.mp Hl p (p+k) (by simpa using pl) (by simpa using kl) (by lia);simp at b;lia
 refine List.pairwise_append.mpr ⟨Hl.sublist (List.take_sublist _ _),uq.mpr ⟨up,Hl.sublist (List.drop_sublist _ _)⟩,λa ha b hb=>?_⟩;have aj:a<j:=by
  obtain⟨k,hk,rfl⟩:=eU ha;rw[cc]at hk;have kl:k<xs.size:=by simp at hk;lia
  rw[List.getElem_take];exact h1 k _ (by lia) (by simp[kl])
 rcases au.mp hb with rfl|hb
 .exact aj
 have:=up b hb;lia
def Bw.standIn{b:Bool}{t:SetTable}(h:Bw b t)(n:Nat):Bw b (t.standIn n):=⟨h.led,rfl,by show(Array.range n).toList.Pairwise (·<·);rw[Array.toList_range];exact Jg⟩
def Bw.QC(h:Bw b t):Bw b {t with plain:=false}:=⟨h.led,h.dum,h.Hl⟩
def Mf(j:Nat):SetTable.has #[] j=false:=by simp[SetTable.has]
def Kz(h:Bw b t)(j:Nat):(t.slot j=.empty/\t.place[SetTable.below t.place j]?≠some j)\/∃i,t.slot j=.live i:=by
 unfold SetTable.slot;by_cases c:t.place[SetTable.below t.place j]?==some j
 .exact .inr ⟨SetTable.below t.place j,by simp only[c,iE]⟩
 refine .inl ⟨?_,by simpa using c⟩;simp only[c,h.dum,Mf];simp
def Hn{b:Bool}{t:SetTable}(h:Bw b t)(f:Nat->Int)(hh:Int):∀(fuel:Nat)(p:SetTable.Probe)(j:Nat)(dm:Option Nat),p.dummy=none->SetTable.probe.go t f hh fuel p=some (.empty j dm)->dm=none/\t.place[SetTable.below t.place j]?≠some j
 |0,p,j,dm,_,e=>by unfold SetTable.probe.go at e;cases e
 |fuel+1,p,j,dm,hp,e=>by
  unfold SetTable.probe.go at e;have adv:(t.advance p).dummy=none:=by
   unfold SetTable.advance;split
   .exact hp
   exact hp
  rcases Kz h p.j with⟨z,ne⟩|⟨i,z⟩
  .rw[z]at e;simp only[Jy,SetTable.Met.empty.injEq]at e;obtain⟨rfl,rfl⟩:=e;exact⟨hp,ne⟩
  rw[z]at e;simp only at e;split at e
  .cases e
  exact Hn h f hh fuel _ j dm adv e
def Bw.layNew{b:Bool}{t:SetTable}(h:Bw b t)(es:Array (Int×JZ))(hh:Int)(x:JZ):Bw b (layNew t es hh x).2.1:=by
 unfold PySem.layNew;split
 .rename_i slot wd e;have put:Bw b (t.put slot).1:=by
   unfold SetTable.freeSlot at e;split at e
   .rename_i j dm e2;unfold SetTable.probe at e2;obtain⟨z1,z2⟩:=Hn h _ _ _ _ j dm rfl e2;subst z1;obtain⟨rfl,_⟩:=tY (bR e);unfold SetTable.put;exact⟨h.led,by show(if SetTable.has t.dummies _ then _ else t.dummies)=#[];rw[h.dum,Mf];rfl,Ky h.Hl z2⟩
   cases e
  dsimp only;unfold SetTable.orStandIn;split
  .exact put
  exact put.standIn _
 exact h.standIn _
def Bw.relayAll{b:Bool}{t:SetTable}(h:Bw b t)(es:Array (Int×JZ))(n:Nat):Bw b (relayAll t es n).2.1:=by
 unfold PySem.relayAll;split
 .rename_i t' order e;dsimp only;split
  .unfold SetTable.relaid SetTable.laid at e;obtain⟨ow,_,e⟩:=Option.bind_eq_some_iff.mp e;obtain⟨rfl,_⟩:=tY (bR e);refine⟨h.led,rfl,?_⟩;show(((List.range _).filterMap λj=>(ow.getD j none).map (j,·)).map (·.1)).Pairwise (·<·);rw[gm,List.pairwise_filterMap];refine Jg.imp λ{a c} hac x hx y hy=>?_;obtain⟨u,_,rfl⟩:=gk.mp hx;obtain⟨v,_,rfl⟩:=gk.mp hy;exact hac
  exact h.standIn _
 exact h.standIn _
def Es(w:Jb):Bool:=w.params.followText "set-order"
abbrev mH(w:Jb):Obj:={cls:=.type "set",dict:=none,data:=.set #[] 0 (.fresh 0 0 (!Es w))}
section
variable{K:Type}[DecidableEq K](knd:KeyKind prog w K)
def vQ(h:Heap)(a:JY)(S:K->Bool)(n:Nat):Prop :=
 ∃o es ep t,h.get? a=some o/\o.ExactSet/\o.data=.set es ep t/\ElemsOf knd es.toList/\(∀k,S k=true↔∃e∈es.toList,knd.is k e.2=true)/\es.size<scanBound/\t.fits es.size=true/\es.size=n/\Bw (!Es w) t
variable{knd}
def As(ho:h.get? a=some o)(hex:o.ExactSet)(hd:o.data=.set es ep t){S':K->Bool}(e1:ElemsOf knd ez.toList)(e2:∀k,S' k=true↔∃e∈ez.toList,knd.is k e.2=true)(e3:ez.size<scanBound)(e4:tz.fits ez.size=true)(e5:Bw (!Es w) tz):
  (h.update a (Obj.putSet ez tz)).get? a=some {o with data:=.set ez (ep+1) tz}/\vQ knd (h.update a (Obj.putSet ez tz)) a S' ez.size:=by
 have g:=(SetOf_store (knd:=knd) ho hex hd e1 e2 e3 e4).1;exact⟨g,_,ez,ep+1,tz,g,hex,rfl,e1,e2,e3,e4,rfl,e5⟩
def Mg{g:Bool->Sem Unit}(hg:∀(b:Bool)(z:JX)(Q':Unit->JX->Prop),Q' () z->wpAny (model prog w) A (g b) Q' E z)(ho:s.heap.get? a=some o)(hex:o.ExactSet)(hd:o.data=.set es ep t){S':K->Bool}(e1:ElemsOf knd ez.toList)(e2:∀k,S' k=true↔∃e∈ez.toList,knd.is k e.2=true)(e3:ez.size<scanBound)(e4:tz.fits ez.size=true)(e5:Bw (!Es w) tz){wd:Bool}{R:Option Bool->JX->Prop}(h:∀h',Heap.SameBut a s.heap h'->vQ knd h' a S' ez.size->R (some true) {s with heap:=h'}):
  wpAny (model prog w) A (do
    storeSet a ez tz
    if(!wd&&tz.tooFull)=true then do
      g (relayAll tz ez (SetTable.grown ez.size)).2.2
      storeSet a (relayAll tz ez (SetTable.grown ez.size)).1 (relayAll tz ez (SetTable.grown ez.size)).2.1
      pure (some true)
     else pure (some true)) R E s:=by
 refine aG (wpAny_storeSet_of ho hd ?_ (fits_of_scanBound e3));obtain⟨o1,S1⟩:=As (knd:=knd) ho hex hd e1 e2 e3 e4 e5;have sb:=rV s.heap a (Obj.putSet ez tz);split
 .have hp:=relayAll_perm tz ez (SetTable.grown ez.size);have hf:=relayAll_fits tz ez (SetTable.grown ez.size);have ht:=e5.relayAll ez (SetTable.grown ez.size);generalize relayAll tz ez (SetTable.grown ez.size)=Rl at hp hf ht ⊢;obtain⟨ey,ty,gv⟩:=Rl;dsimp only at hp hf ht ⊢;have f2:∀k,S' k=true↔∃e∈ey.toList,knd.is k e.2=true:=λk=>(e2 k).trans ⟨λ⟨e,he,q⟩=>⟨e,hp.mem_iff.mpr he,q⟩,λ⟨e,he,q⟩=>⟨e,hp.mem_iff.mp he,q⟩⟩;have hz:ey.size=ez.size:=by rw[<-fq,hp.length_eq,fq]
  have f3:ey.size<scanBound:=by rw[hz];exact e3
  refine aG (hg _ _ _ (aG (wpAny_storeSet_of o1 rfl ?_ (fits_of_scanBound f3))));obtain⟨_,S2⟩:=As (knd:=knd) o1 hex rfl (e1.perm hp) f2 f3 hf ht;rw[hz]at S2;exact aS (h _ (sb.trans (rV _ a _)) S2)
 exact aS (h _ sb S1)
def QD{S:K->Bool}{k:K}{x:JZ}{Q:Bool->JX->Prop}(KD:knd.is k x=true)(AY:x.scannable=true)(hS:vQ knd s.heap a S n)(QE:n+1<scanBound)(h:∀h',Heap.SameBut a s.heap h'->vQ knd h' a (λk'=>S k'||decide (k'=k)) (if S k then n else n+1)->Q (!S k) {s with heap:=h'}):
  wpAny (model prog w) A (setAddHashed a x (knd.hash k)) Q E s:=by
 obtain⟨o,es,ep,t,ho,hex,hd,TF,yn,hb,hf,hn,tok⟩:=hS;have room:es.size+1<scanBound:=by rw[hn];exact QE
 unfold setAddHashed setAddHashedIn;refine gp (aG (rX ho hd hf ?_));dsimp only;rw[byScan_of AY hb TF];simp only[↓reduceIte];unfold setAddByScan;refine aG (aG (iD (aG (wpAny_setScan_of KD ho hd hf TF ?_))));cases hr:List.findIdx? (λe=>knd.is k e.2) es.toList with
 |some j =>
  dsimp only;obtain⟨jl,pj,_⟩:=List.findIdx?_eq_some_iff_getElem.mp hr;have sk:S k=true:=(yn k).mpr ⟨es.toList[j],jJ jl,pj⟩;refine aS (aS ?_);have e:s={s with heap:=s.heap}:=by cases s;rfl
  have z:=h s.heap (Heap.SameBut.refl a s.heap) ⟨o,es,ep,t,ho,hex,hd,TF,λk'=>by rw[Bool.or_eq_true,tN,<-yn k'];exact⟨λu=>u.elim id (λe=>e▸sk),.inl⟩,hb,hf,by rw[sk];exact hn,tok⟩
  rw[sk]at z;rw[e];exact z
 |none =>
  dsimp only;have sk:S k=false:=by
   cases u:S k with
   |false=>rfl
   |true =>
    obtain⟨e,he,hp⟩:=(yn k).mp u;have:=List.findIdx?_eq_none_iff.mp hr e he;rw[hp]at this;cases this
  have gw:∀(b:Bool){z:JX}{Q':Unit->JX->Prop},Q' () z->wpAny (model prog w) A (match b with|true=>rule "set.scan.the-table-gave-way"|false=>pure ()) Q' E z:=λb z Q' q=>by cases b<;>first|exact aS q|exact iD q
  have hp:=layNew_perm t es (knd.hash k) x;have ZO:=layNew_fits t es (knd.hash k) x;have ZP:=tok.layNew es (knd.hash k) x;generalize layNew t es (knd.hash k) x=Lz at hp ZO ZP ⊢;obtain⟨ez,tz,wd,gv⟩:=Lz;dsimp only at hp ZO ZP ⊢;rw[Array.toList_push]at hp;have f1:ElemsOf knd ez.toList:=(TF.push KD AY).perm hp;have f2:∀k',(S k'||decide (k'=k))=true↔∃e∈ez.toList,knd.is k' e.2=true:=mem_push_iff KD yn hp;have zs:ez.size=es.size+1:=by rw[<-fq,hp.length_eq,bV,fq];rfl
  have f3:ez.size<scanBound:=by rw[zs];exact room
  refine aG (gw _ ?_);have fin:∀h',Heap.SameBut a s.heap h'->vQ knd h' a (λk'=>S k'||decide (k'=k)) ez.size->Q true {s with heap:=h'}:=by intro h' sb S1;have z:=h h' sb;rw[sk]at z;rw[zs,hn]at S1;exact z S1
  split
  .refine aG ?_;rw[hashByValue_scannable 8 AY];refine aS (Mg ?_ ho hex hd f1 f2 f3 ?_ ?_ ?_)
   .intro b z Q' q;cases b<;>first|exact aS q|exact iD q
   .split
    .exact ZO
    exact SetTable.fits_plain_off ZO
   .split
    .exact ZP
    exact ZP.QC
   intro h' sb S1;dsimp only;exact aS (fin h' sb S1)
  refine aG (aS ?_);simp only[↓reduceIte];refine Mg ?_ ho hex hd f1 f2 f3 ZO ZP ?_
  .intro b z Q' q;cases b<;>first|exact aS q|exact iD q
  intro h' sb S1;dsimp only;exact aS (fin h' sb S1)
end
def N4(a:JZ)(h:Q₁ (.ref s.heap.objs.size) {s with heap:=s.heap.push (mH w)}):
  codeAny (model prog w) A (.call (.builtin "set.__new__") ⟨[.type "set",a],[]⟩) (wants Q₁ E) s:=by
 refine codeAny_of_tree (show wpAny _ A.in1 (do checkBuiltinCall "set.__new__" ⟨[.type "set",a],[]⟩;again (.builtin "set.__new__" ⟨[.type "set",a],[]⟩)) _ _ s from ?_)
 refine aG (wpAny_of_eq (PySem.F.newCall_set_1 a) (aS ⟨lA PySem.F.plain_set_new _,oN PySem.F.entry_set_new ?_⟩));rw[um PySem.F.plain_set_new _];unfold Builtin.«set.__new__» Builtin.Frozenset.newClass;have aG9:=sub_set_self;obtain⟨hp,g,d,tk,os⟩:=s;dsimp only
 wp_walk
 refine wpAny_askSetting (aS ?_);dsimp only;simp only[newObj];exact aG (wpAny_alloc (aS (aS h)))
def N5{k:ä}(q:vQ (aw prog w) h a (λk'=>mE ks k'||decide (k'=k)) (if mE ks k then(dd ks).length else(dd ks).length+1)):vQ (aw prog w) h a (mE (k::ks)) (dd (k::ks)).length:=by
 have e1:(λk'=>mE ks k'||decide (k'=k))=mE (k::ks):=funext λk'=>Nk.symm;have e2:(if mE ks k then(dd ks).length else(dd ks).length+1)=(dd (k::ks)).length:=by show _=(if mE ks k=true then dd ks else k::dd ks).length;split<;>rfl
 rw[e1,e2]at q;exact q
section
variable{R:Result->JX->Prop}{St:Nat->JX->Prop}
def N6(us:List JZ)(ks:List ä)(hu:aq (ks.map kV) us)(W:WalksS prog w A.in1 I fp wr G us.length (λi v=>us[i]?=some v) St)(S:JY)(nS:S∉fp)(hb:us.length+1<scanBound):
  ∀(m i:Nat)(s:JX),us.length-i=m->i<=us.length->St i s->vQ (aw prog w) s.heap S (mE (ks.take i).reverse) (dd (ks.take i).reverse).length ->
   (∀s',Moved (S::wr) G s s'->vQ (aw prog w) s'.heap S (mE ks.reverse) (dd ks.reverse).length->R (.ok (.ret .none)) s') ->
   codeAny (model prog w) A (.builtin "set.update.loop" ⟨[.ref S,.ref I],[]⟩) R s:=by
 have lc:ks.length=us.length:=by rw[<-hu.length,aJ]
 have nw:S∉wr:=λz=>nS (W.sub _ z);have sb:∀b∈wr,b∈S::wr:=λb z=>bU _ z;have stays:∀{s s':JX}{f:ä->Bool}{n:Nat},Moved wr G s s'->vQ (aw prog w) s.heap S f n->vQ (aw prog w) s'.heap S f n :=
  λhm ⟨o,es,ep,t,ho,r⟩=>⟨o,es,ep,t,hm.heap S _ nw ho,r⟩
 intro m
 induction m with
 |zero =>
  intro i s hm hi st hS hR;obtain rfl:i=us.length:=by lia
  refine oN F.entry_set_update_loop ?_;rw[um J0 _];refine aG (m:=pyNext (.ref I)) (W.done s _ _ st λs' mv=>?_);refine aS (hR s' (mv.mono sb) ?_);have e:ks.take us.length=ks:=zV (by lia);rw[e]at hS;exact stays mv hS
 |succ m ih =>
  intro i s hm hi st hS hR;have jz:i<us.length:=by lia
  refine oN F.entry_set_update_loop ?_;rw[um J0 _];refine aG (m:=pyNext (.ref I)) (W.item i s _ _ jz st λv s' hv tq mv=>?_);obtain⟨k,hk,rk⟩:∃k,ks[i]?=some k/\æ (kV k) v:=by have oW:i<ks.length:=(by lia);obtain⟨u,e1,e2⟩:=hu.get (i:=i) (x:=kV ks[i]) (by rw[bh,cT oW];rfl);have rf:us[i]?=some v:=hv;rw[e1]at rf;cases rf;exact⟨_,cT oW,e2⟩
  obtain⟨k1,k2⟩:=Pr (prog:=prog) (w:=w) rk;refine aG (m:=holding [v] (setAdd S v)) (gp ?_);unfold setAdd;refine gp (aG ((aw prog w).pyHash k1 ?_));have ZQ:=stays mv hS;have QE:(dd (ks.take i).reverse).length+1<scanBound:=by have:=Ej (ks.take i).reverse;rw[rT,cc]at this;lia
  refine QD (knd:=aw prog w) (s:={s' with toks:=s'.toks+1}) k1 k2 ZQ QE λh' eq Xf=>?_
  have e:(ks.take (i+1)).reverse=k::(ks.take i).reverse:=by rw[List.take_succ,hk,List.reverse_append];rfl
  have hS3:=N5 Xf;rw[<-e]at hS3;refine aS ⟨lA J0 _,ih (i+1) _ (by lia) jz (W.frame _ s' _ _ tq (gq _) λb z o eo=>?_) hS3 λs2 mv2 hS4=>hR s2 (Moved.trans W.gtrans ((mv.mono sb).then_heap (gq _) λb o z eo=>?_) mv2) hS4⟩
  .rw[eq.2 b (λy:b=S=>nS (by rw[<-y];exact z))];exact eo
  rw[eq.2 b (λy:b=S=>z (by rw[y];exact bp))];exact eo
end
def Ho(hn:wpAny (model prog w) A.in1.in1 (Builtin.«set.__init__» ⟨[.ref s.heap.objs.size,u],[]⟩)
    (λfin s'=>match fin with|.done f=>wants (λr s2=>r=.none/\Q (.ref s.heap.objs.size) s2) E (.ok f) s'|.again c'=>c'.quiet=true/\codeAny (model prog w) A.in1 c' (wants (λr s2=>r=.none/\Q (.ref s.heap.objs.size) s2) E) s')
    (λe s'=>wants (λr s2=>r=.none/\Q (.ref s.heap.objs.size) s2) E (.error e) s') {s with heap:=s.heap.push (mH w)}):
  wpAny (model prog w) A (call (.type "set") [u]) Q E s:=by
 have ft:=F.called_set;obtain⟨c0,tl0,aGC⟩:=ft.mro;have g1:=ft.made;have g2:=ft.sub;have g3:=ft.notType;have g4:=ft.canCreate;have g5:=F.typeCall_set_1 u;refine wpAny_call (codeAny_of_tree (aS (a:=_) ⟨Code.quiet_builtin _ (by decide +kernel),oN F.entry_type_call ?_⟩));rw[Around.under_plain (weight_type_call_type "set" [u] []) rfl]
 repeat (any_goals (first|assumption|(wp_step)))
 refine jv (N4 u (E:=E) (Q₁:=λobj z=>obj=.ref s.heap.objs.size/\z={s with heap:=s.heap.push (mH w)}) ⟨rfl,rfl⟩) λr s₁ hr=>?_
 cases r with
 |error e=>exact hr
 |ok fl =>
  cases fl with
  |ret obj =>
   obtain⟨rfl,rfl⟩:=hr;have hT:Shared.TypeIs {s with heap:=s.heap.push (mH w)} (.ref s.heap.objs.size) "set":=⟨_,bK _ rfl,rfl⟩;have g6:=ft.init.lookup;have g7:=ft.init.bind (.ref s.heap.objs.size)
   repeat (any_goals (first|assumption|(wp_step)))
   refine jv (codeAny_call_builtin ft.init.plain F.entry_set_init (check_set_init_1 hT hn)) λr2 s2 wN=>?_;cases r2 with
   |error e=>exact wN
   |ok f2 =>
    cases f2 with
    |ret r =>
     obtain⟨rfl,hq⟩:=wN
     repeat (any_goals (first|assumption|(wp_step)))
    |_=>exact wN.elim
  |_=>exact hr.elim
def yF{T:String}(hh:A.handled=none)(hT:(T="list"/\s.heap.IsList l us.toArray)\/(T="tuple"/\s.heap.IsTuple l us.toArray))(hu:aq (ks.map kV) us)(hb:us.length+1<scanBound)(h:∀(h':Heap)(tk:Nat),vQ (aw prog w) h' s.heap.objs.size (mE ks.reverse) (dd ks.reverse).length->(∀b o,s.heap.get? b=some o->h'.get? b=some o)->Q (.ref s.heap.objs.size) {s with heap:=h',toks:=tk}):
  wpAny (model prog w) A (call (.type "set") [.ref l]) Q E s:=by
 refine Ho ?_;have hS:(s.heap.push (mH w)).get? s.heap.objs.size=some (mH w):=bK _ rfl;have z4:A.in1.in1.in1.handled=none:=by simp[hh]
 have jz:l<s.heap.objs.size:=by rcases hT with⟨_,o,ho,_⟩|⟨_,o,ho,_⟩<;>exact bC ho
 have nl:l≠(s.heap.push (mH w)).objs.size:=by rw[ib];exact cg (rW jz)
 have nS:s.heap.objs.size∉[(s.heap.push (mH w)).objs.size,l]:=by
  rw[ib];intro z;rcases au.mp z with z|z
  .exact absurd z (cg (om _))
  exact absurd (bX.mp z) (ju jz)
 have fin:∀(I:Obj)(G:Array GenState->Array GenState->Prop)(hG:∀a b,G a b->b=a)(St:Nat->JX->Prop),
   WalksS prog w A.in1.in1.in1 (s.heap.push (mH w)).objs.size [(s.heap.push (mH w)).objs.size,l] [(s.heap.push (mH w)).objs.size] G us.length (λi v=>us[i]?=some v) St ->
   St 0 {s with heap:=(s.heap.push (mH w)).push I} ->
   codeAny (model prog w) A.in1.in1 (.builtin "set.update.loop" ⟨[.ref s.heap.objs.size,.ref (s.heap.push (mH w)).objs.size],[]⟩)
    (λr s'=>∃v,r=.ok (.ret v)/\Q (.ref s.heap.objs.size) s') {s with heap:=(s.heap.push (mH w)).push I}:=by
  intro I G hG St W st0;refine N6 us ks hu W s.heap.objs.size nS hb us.length 0 _ rfl (bt _) st0 ?_ λs' hm SK=>⟨_,rfl,?_⟩
  .have aCu:((s.heap.push (mH w)).push I).get? s.heap.objs.size=some (mH w):=bG _ hS;exact⟨_,#[],0,_,aCu,⟨rfl,rfl,rfl⟩,rfl,λe he=>by simp at he,λk=>by simp[mE],by decide,rfl,rfl,⟨rfl,rfl,.nil⟩⟩
  obtain⟨h',g',d',Xh,os'⟩:=s';have eg:g'=s.gens:=hG _ _ hm.gens;have ed:d'=s.drawn:=hm.drawn;have eo:os'=s.os:=hm.os;subst eg ed eo;refine h h' Xh SK λb o e=>?_;have Om:=bC e;refine hm.heap b o (λz=>?_) (bG _ (bG _ e));rcases au.mp z with z|z
  .rw[z]at Om;exact gR _ Om
  have z:=bX.mp z;rw[ib]at z;rw[z]at Om;exact absurd Om (AG.mpr (gq _))
 unfold Builtin.«set.__init__» noKeywords Builtin.Frozenset.updateFrom;have eP:(λ(i:Nat)(v:JZ)=>us.toArray[i]?=some v)=λi v=>us[i]?=some v:=by funext i v;simp
 generalize hPI:pyIter=PI;rcases hT with⟨rfl,hl⟩|⟨rfl,hl⟩
 .obtain⟨ol,Kw,Rr,ZR,ZS⟩:=hl;obtain⟨Y6,HU,U2,Am⟩:=ol;simp only at Rr ZS;subst Rr ZS;have K0:(s.heap.push (mH w)).get? l=some {cls:=.type "list",dict:=HU,data:=.seq us.toArray ZR,slots:=Am}:=bG _ Kw;have y1:=F.sub_list_set;have y2:=F.sub_list_frozenset;have y3:(Value.type "list"==Value.type "dict")=false:=by decide
  wp_walk
  subst hPI;have Hq:(s.heap.push (mH w)).IsList l us.toArray:=⟨_,K0,rfl,ZR,rfl⟩;refine tQ Hq (aG (z9 ?_));have W:=(Walks.list z4 _ l nl us.toArray).toS (prog:=prog) (w:=w);rw[eP,bo]at W;refine jv (fin _ _ (λa b e=>e) _ W ⟨⟨_,bK _ rfl,rfl,rfl⟩,Hq.push _⟩) λr s' hr=>?_;obtain⟨v,rfl,q⟩:=hr;exact aS (a:=_) (aS (a:=_) ⟨rfl,q⟩)
 obtain⟨ol,Kw,Rr,ZR,ZS⟩:=hl;obtain⟨Y6,HU,U2,Am⟩:=ol;simp only at Rr ZS;subst Rr ZS;have K0:(s.heap.push (mH w)).get? l=some {cls:=.type "tuple",dict:=HU,data:=.seq us.toArray ZR,slots:=Am}:=bG _ Kw;have y1:isSubtype (.type "tuple") (.type "set")=pure false:=by rw[wg];kernel_rfl
 have y2:isSubtype (.type "tuple") (.type "frozenset")=pure false:=by rw[wg];kernel_rfl
 have y3:(Value.type "tuple"==Value.type "dict")=false:=by decide
 wp_walk
 subst hPI;have Hq:(s.heap.push (mH w)).IsTuple l us.toArray:=⟨_,K0,rfl,ZR,rfl⟩;refine Dm Hq (aG (z9 ?_));have W:=(Walks.tuple z4 _ l nl us.toArray).toS (prog:=prog) (w:=w);rw[eP,bo]at W;refine jv (fin _ _ (λa b e=>e) _ W ⟨⟨_,bK _ rfl,rfl,rfl⟩,Hq.push _⟩) λr s' hr=>?_;obtain⟨v,rfl,q⟩:=hr;exact aS (a:=_) (aS (a:=_) ⟨rfl,q⟩)
def gy:Slot "set_iterator" "__next__" "set_iterator.__next__" :=
 .of (owner:="set_iterator") (n:="__next__") (by rw[zt,zc];kernel_rfl) (by decide +kernel) (by decide +kernel) (by decide +kernel) (by first|exact .inl (by decide +kernel)|exact .inr (by decide +kernel)) (by rw[wg];kernel_rfl)
def vR:Slot "set_iterator" "__iter__" "set_iterator.__iter__" :=
 .of (owner:="set_iterator") (n:="__iter__") (by rw[zt,zc];kernel_rfl) (by decide +kernel) (by decide +kernel) (by decide +kernel) (by first|exact .inl (by decide +kernel)|exact .inr (by decide +kernel)) (by rw[wg];kernel_rfl)
def B5:entryFor table "set_iterator.__next__"=some Builtin.«set_iterator.__next__»:=entryFor_of_tree (by kernel_rfl)
def B6:entryFor table "set_iterator.__iter__"=some Builtin.«dict_keyiterator.__iter__»:=entryFor_alias (id':="dict_keyiterator.__iter__") (by kernel_rfl) rfl (by decide +kernel) (by kernel_rfl)
def B7:entryFor table "set.__iter__"=some Builtin.«frozenset.__iter__»:=entryFor_alias (id':="frozenset.__iter__") (by kernel_rfl) rfl (by decide +kernel) (by kernel_rfl)
def Et(a:JZ):argsOk "set_iterator.__next__" ⟨[a],[]⟩:=by unfold argsOk;kernel_rfl
def Eu(a:JZ):argsOk "set_iterator.__iter__" ⟨[a],[]⟩:=by unfold argsOk;kernel_rfl
abbrev xH(h:Heap)(I:JY)(f0:JZ)(i:Nat)(S:JY)(n ep:Nat):Prop:=h.get? I=some {cls:=.type "set_iterator",dict:=none,data:=.fields #[f0,rawInt i,.ref S,rawInt n,rawInt ep],slots:=#[]}
def DB(Wk:Array (Int×JZ))(i:Nat)(v:JZ):Prop:=∃h,Wk[i]?=some (h,v)
def qk{Q:Bool->JX->Prop}(h:Q (Es w) s):wpAny (model prog w) A setsByText Q E s:=by unfold setsByText;exact aG (wpAny_askSetting (aS h))
def K1{Q:Nat->JX->Prop}(hn:n≠0)(h:∀i d,i<n->Q i {s with drawn:=d}):wpAny (model prog w) A (choose src n) Q E s:=λΓ p _=>by unfold choose;rw[Sem.wp_choose];exact⟨hn,(Sem.wp_pure ..).mpr (h _ _ (Nat.mod_lt _ (Nat.pos_of_ne_zero hn)))⟩
def yG{α:Type}:∀(n:Nat)(xs:List α)(s:JX){Q:List α->JX->Prop},xs.length=n->(∀ys d,ys.Perm xs->Q ys {s with drawn:=d})->wpAny (model prog w) A (drawOrder n xs) Q E s
 |0,xs,s,Q,hl,h=>by have e:xs=[]:=Je.mp hl;subst e;unfold drawOrder;exact aS (h [] s.drawn (.refl _))
 |n+1,[],s,Q,hl,h=>by cases hl
 |n+1,x::xs,s,Q,hl,h=>by
  unfold drawOrder;refine aG (K1 (by simp) λi d hi=>?_);have e:(x::xs)[i]?=some (x::xs)[i]:=by simp[hi]
  rw[e];refine(show wpAny _ _ (drawOrder n ((x::xs).eraseIdx i) >>= _) _ _ _ from aG (yG n _ _ (by rw[List.length_eraseIdx,aL hi];simp at hl ⊢;lia) λys d2 hy=>aS ?_));refine h _ d2 ((hy.cons _).trans ?_);have er:∀{l:List α}{k:Nat}(hk:k<l.length),(l[k]::l.eraseIdx k).Perm l:=λ{l}=>by
   induction l with
   |nil=>intro k hk;exact absurd hk (mY _)
   |cons a l ih =>
    intro k hk;cases k with
    |zero=>exact .refl _
    |succ k=>exact(List.Perm.swap a (l[k]'(rS hk)) _).trans ((ih (rS hk)).cons a)
  exact er hi
def xI{α:Type}(next:Nat->Nat)(xs:Array α):(pickOrder next xs).toList.Perm xs.toList:=by
 have go:∀(fuel k:Nat)(left:List α)(out:Array α),left.length<=fuel->(pickOrder.go next fuel k left out).toList.Perm (out.toList++left):=by
  intro fuel
  induction fuel with
  |zero =>
   intro k left out hl;have e:left=[]:=Je.mp (by lia);subst e;unfold pickOrder.go;simp
  |succ fuel ih =>
   intro k left out hl;unfold pickOrder.go;cases left with
   |nil=>simp
   |cons a l =>
    have hi:next k%(a::l).length<(a::l).length:=Nat.mod_lt _ (by simp);have e:(a::l)[next k%(a::l).length]?=some (a::l)[next k%(a::l).length]:=cT hi;rw[e];dsimp only;refine(ih (k+1) _ _ (by rw[List.length_eraseIdx,aL hi];lia)).trans ?_;rw[Array.toList_push,jH];refine List.Perm.append_left _ ?_;have er:∀{l:List α}{k:Nat}(hk:k<l.length),(l[k]::l.eraseIdx k).Perm l:=λ{l}=>by
     induction l with
     |nil=>intro k hk;exact absurd hk (mY _)
     |cons a l ih =>
      intro k hk;cases k with
      |zero=>exact .refl _
      |succ k=>exact(List.Perm.swap a (l[k]'(rS hk)) _).trans ((ih (rS hk)).cons a)
    exact er hi
 unfold pickOrder;have:=go xs.size 0 xs.toList #[] (by simp)
 simpa using this
structure B8(h:Heap)(S:JY)(o:Obj)(es:Array (Int×JZ))(ep:Nat)(t:SetTable):Prop where
 g:h.get? S=some o
 d:o.data=.set es ep t
 f:t.fits es.size=true
def Ew(hI:xH s.heap I f0 i S n ep)(h:Q (.ref I) s):wpAny (model prog w) A (pyIter (.ref I)) Q E s:=by have ty:s.TypeIs (.ref I) "set_iterator":=⟨_,hI,rfl⟩;exact Dx ty vR (jo vR ty B6 (show wpAny _ _ (ret (.ref I)) _ _ s from aS ⟨_,rfl,"set_iterator",_,ty,gy.lookup,h⟩) (Eu _))
def qm{Q:Option JZ->JX->Prop}(hI:xH s.heap I f0 i S n ep)(h:wpAny (model prog w) A.in1 (Builtin.«set_iterator.__next__» ⟨[.ref I],[]⟩) (λfin s'=>∃v,fin=.done (.ret v)/\Q (some v) s') (λe s'=>∃a,e=.ref a/\(∃o,s'.heap.get? a=some o/\o.cls=.type "StopIteration")/\Q none s') s):wpAny (model prog w) A (pyNext (.ref I)) Q E s:=by
 have ty:s.TypeIs (.ref I) "set_iterator":=⟨_,hI,rfl⟩;unfold pyNext;refine aG (AE (xu (name:=Str.ofString "__next__") ty gy (jo gy ty B5 ?_ (Et _))));refine gW h (λfin s' z=>?_) λe s' z=>?_
 .obtain⟨v,rfl,q⟩:=z;exact⟨v,rfl,aS q⟩
 obtain⟨a,rfl,⟨o,ho,hc⟩,q⟩:=z;exact aG (wc (T:="StopIteration") (b:=true) ⟨o,ho,hc⟩ isSubtype_stop (aS q))
def Ex{Q:Fin->JX->Prop}(hh:A.handled=none)(hI:xH s.heap I f0 i S n ep)(h:∀h' a,(∀b o,b≠I->s.heap.get? b=some o->h'.get? b=some o)->(∃o,h'.get? a=some o/\o.cls=.type "StopIteration")->E' (.ref a) {s with heap:=h'}):
  wpAny (model prog w) A (do setField (.ref I) 2 .none;raiseNew (<- newExc (.type "StopIteration") [])) Q E' s:=by
 refine aG (kW hI (by simp) λh1 g1 s1=>?_);refine(show wpAny _ _ (newExc (.type "StopIteration") [] >>= _) _ _ _ from aG ?_);simp only[newTuple,newExc];refine aG (jI (aG (m:=firstArgMember _ _) (wpAny_of_eq (a:=Value.none) (by first|rfl|(simp only[firstArgMember];rfl)) (jI ?_ (by size_fits)))) (by size_fits));simp only[raiseNew];refine aG (wpAny_handled ?_);rw[hh];exact aG (aS (wpAny_throw (h _ _ (λb o nb e=>bG _ (bG _ (s1.extBut b o nb e))) ⟨_,bK _ rfl,rfl⟩)))
def qo(hI:xH s.heap I f0 i S es.size ep)(hS:B8 s.heap S o es ep t){Q:Fin->JX->Prop}(h:wpAny (model prog w) A (if let .int slot _:=f0 then do
    match <- setNext S slot.toNat i ep with
    |some (x,next) =>
     setField (.ref I) 0 (rawInt next)
     setField (.ref I) 1 (rawInt ((i:Int)+1))
     ret x
    |none=>setField (.ref I) 2 .none;raiseNew (<- newExc (.type "StopIteration") [])
   else do
    let some places <- seqItems? f0|unsupported "internal:set_iterator"
    match places[i]? with
    |some (.int place _) =>
     let x <- setNextDrawn S place.toNat ep
     setField (.ref I) 1 (rawInt ((i:Int)+1))
     ret x
    |some _=>unsupported "internal:set_iterator"
    |none=>setField (.ref I) 0 (rawInt 0);setField (.ref I) 2 .none;raiseNew (<- newExc (.type "StopIteration") [])) Q E' s):
  wpAny (model prog w) A (Builtin.«set_iterator.__next__» ⟨[.ref I],[]⟩) Q E' s:=by
 refine(show wpAny _ _ (fieldsOf (.ref I) >>= _) _ _ s from aG (wpAny_fieldsOf hI rfl ?_));refine(show wpAny _ _ (setEntries S >>= _) _ _ s from aG ?_);unfold setEntries;refine aG (rX hS.g hS.d hS.f (aS ?_));refine(show wpAny _ _ (if(((es.size:Nat):Int) != ((es.size:Nat):Int))=true then _ else _) _ _ s from ?_);rw[aK (by simp)];exact h
def K2(Hl:t.place.toList.Pairwise (·<·))(hi:i<=t.place.size)(hs:(i=0/\slot=0)\/∃j,i=j+1/\∃p,t.place[j]?=some p/\slot=p+1):SetTable.below t.place slot=i:=by
 obtain⟨h1,h2,h3⟩:=Hm slot Hl;have le:∀{a c x y:Nat},a<c->t.place[a]?=some x->t.place[c]?=some y->x<y:=λ{a c x y} hac hx hy=>by obtain⟨i1,e1⟩:=zR.mp hx;obtain⟨k1,e2⟩:=zR.mp hy;have:=zS.mp Hl a c (by simpa using i1) (by simpa using k1) hac;simp[e1,e2]at this;exact this
 generalize SetTable.below t.place slot=b at h1 h2 h3;rcases zj b i with c|c|c
 .exfalso;rcases hs with⟨rfl,_⟩|⟨j,rfl,p,hp,rfl⟩
  .lia
  have bl:b<t.place.size:=by lia
  have eb:t.place[b]?=some t.place[b]:=by simp[bl]
  have:=h2 b _ (ae _) eb;rcases Jv (show b<=j by lia)with z|z
  .have:=le z eb hp;lia
  subst z;rw[eb]at hp;cases hp;lia
 .exact c
 exfalso;rcases hs with⟨rfl,rfl⟩|⟨j,rfl,p,hp,rfl⟩
 .have bl:0<t.place.size:=by lia
  have:=h1 0 _ c (show t.place[0]?=some t.place[0] by simp[bl]);lia
 have jl:j+1<t.place.size:=by lia
 have ej:t.place[j+1]?=some t.place[j+1]:=by simp[jl]
 have a:=h1 (j+1) _ c ej;have b':=le (om j) hp ej;lia
def Au{Q:Option (JZ×Nat)->JX->Prop}(hS:B8 s.heap S o es ep t)(tk:Bw (!Es w) t)(hb:Es w=false)(hd:(!t.plain&&decide (es.size>1))=false)(hi:i<=es.size)(hs:(i=0/\slot=0)\/∃j,i=j+1/\∃p,t.place[j]?=some p/\slot=p+1)(h1:∀x p,(∃hh,es[i]?=some (hh,x))->t.place[i]?=some p->Q (some (x,p+1)) s)(h2:es[i]?=none->Q none s):wpAny (model prog w) A (setNext S slot i ep) Q E s:=by
 have pz:t.place.size=es.size:=by have:=hS.f;unfold SetTable.fits at this;simp at this;exact this.1
 unfold setNext;refine aG (rX hS.g hS.d hS.f ?_);dsimp only;refine aG (qk ?_);rw[hb];rw[aK (by exact cG)];refine(show wpAny _ _ (if(!t.plain&&decide (es.size>1))=true then _ else _) _ _ _ from ?_);rw[hd];rw[aK (by exact cG)];refine(show wpAny _ _ ((if(!t.led&&!es.isEmpty)=true then unsupported "set:maker-not-led"else pure ()) >>= _) _ _ _ from ?_);rw[tk.led,hb];refine(show wpAny _ _ ((if(false&&!es.isEmpty)=true then unsupported "set:maker-not-led"else pure ()) >>= _) _ _ _ from ?_);rw[aK (by simp)];refine aG (aS ?_);have eb:=K2 tk.Hl (by lia) hs;rw[eb];by_cases c:i<es.size
 .have e1:es[i]?=some (es[i].1,es[i].2):=by simp[c]
  have e2:t.place[i]?=some (t.place[i]'(by lia)):=by simp[show i<t.place.size by lia]
  rw[e1,e2];exact aS (h1 _ _ ⟨_,e1⟩ e2)
 have e1:es[i]?=none:=by simp;lia
 rw[e1];exact aS (h2 e1)
def K3(hh:A.handled=none)(AX:S≠I)(tk:Bw (!Es w) t)(hb:Es w=false)(hd:(!t.plain&&decide (es.size>1))=false):
  Walks prog w A I [I,S] [I] es.size (DB es) (λi h=>B8 h S o es ep t/\i<=es.size/\∃slot:Nat,xH h I (rawInt slot) i S es.size ep/\((i=0/\slot=0)\/∃j,i=j+1/\∃p,t.place[j]?=some p/\slot=p+1))where
 sub:=λb hb=>by simp at hb;simp[hb]
 frame:=λi h h' st hk=>⟨⟨hk S (by simp) _ st.1.g,st.1.d,st.1.f⟩,st.2.1,let⟨sl,z1,z2⟩:=st.2.2;⟨sl,hk I (by simp) _ z1,z2⟩⟩
 item:=λi s Q E hi st hQ=>by obtain⟨hS,_,slot,hI,hs⟩:=st;refine qm hI (qo hI hS ?_);refine(show wpAny _ _ (setNext S ((slot:Int).toNat) i ep >>= _) _ _ _ from aG ?_);rw[show((slot:Nat):Int).toNat=slot by lia];refine Au hS tk hb hd (by lia) hs (λx p hx hp=>?_) λz=>absurd z (by simp;lia);refine aG (kW hI (by simp) λh1 g1 s1=>?_);have Wi:xH h1 I (rawInt ((p+1:Nat):Int)) i S es.size ep:=g1;refine aG (kW Wi (by simp) λh2 g2 s2=>?_);have g2':xH h2 I (rawInt ((p+1:Nat):Int)) (i+1) S es.size ep:=g2;refine aS ⟨x,rfl,hQ x h2 s.toks hx ⟨⟨s2.extBut _ _ AX (s1.extBut _ _ AX hS.g),hS.d,hS.f⟩,hi,p+1,g2',.inr ⟨i,rfl,p,hp,rfl⟩⟩ λb o' nb e=>?_⟩;have U7:b≠I:=λz=>nb (by simp[z]);exact s2.extBut _ _ U7 (s1.extBut _ _ U7 e)
 done:=λs Q E st hQ=>by obtain⟨hS,_,slot,hI,hs⟩:=st;refine qm hI (qo hI hS ?_);refine(show wpAny _ _ (setNext S ((slot:Int).toNat) es.size ep >>= _) _ _ _ from aG ?_);rw[show((slot:Nat):Int).toNat=slot by lia];refine Au hS tk hb hd (ae _) hs (λx p hx hp=>by obtain⟨_,z⟩:=hx;simp at z) λ_=>?_;refine Ex (by simp[hh]) hI λh' a hk he=>⟨a,rfl,he,hQ h' s.toks λb o' nb e=>hk b o' (λz=>nb (by simp[z])) e⟩
 self:=λi s Q E st hQ=>by obtain⟨_,_,slot,hI,_⟩:=st;exact Ew hI hQ
def DC{Q:Option (JZ×Nat)->JX->Prop}(hS:B8 s.heap S o es ep t)(hb:Es w=true)(h:Q (((pickOrder (w.params.setOrder S ep) es)[i]?).map λe=>(e.2,0)) s):wpAny (model prog w) A (setNext S 0 i ep) Q E s:=by unfold setNext;refine aG (rX hS.g hS.d hS.f ?_);dsimp only;refine aG (qk ?_);rw[hb];rw[aL rfl,aK (by simp)];refine aG ?_;unfold setWalk;refine aG (rX hS.g hS.d hS.f ?_);dsimp only;refine aG (qk ?_);rw[hb];rw[aL rfl];exact aG (wpAny_askSetting (aS (aS h)))
def N7(hh:A.handled=none)(AX:S≠I)(hb:Es w=true):
  Walks prog w A I [I,S] [I] es.size (DB (pickOrder (w.params.setOrder S ep) es)) (λi h=>B8 h S o es ep t/\xH h I (rawInt 0) i S es.size ep)where
 sub:=λb hb=>by simp at hb;simp[hb]
 frame:=λi h h' st hk=>⟨⟨hk S (by simp) _ st.1.g,st.1.d,st.1.f⟩,hk I (by simp) _ st.2⟩
 item:=λi s Q E hi st hQ=>by
  obtain⟨hS,hI⟩:=st;have pz:(pickOrder (w.params.setOrder S ep) es).size=es.size:=by have:=(xI (w.params.setOrder S ep) es).length_eq;simpa using this
  have e:(pickOrder (w.params.setOrder S ep) es)[i]?=some ((pickOrder (w.params.setOrder S ep) es)[i]'(by lia)):=by simp[show i<(pickOrder (w.params.setOrder S ep) es).size by lia]
  refine qm hI (qo hI hS ?_);refine(show wpAny _ _ (setNext S 0 i ep >>= _) _ _ _ from aG (DC hS hb ?_));rw[e];refine aG (kW hI (by simp) λh1 g1 s1=>?_);have Wi:xH h1 I (rawInt 0) i S es.size ep:=g1;refine aG (kW Wi (by simp) λh2 g2 s2=>?_);have g2':xH h2 I (rawInt 0) (i+1) S es.size ep:=g2;refine aS ⟨_,rfl,hQ _ h2 s.toks ⟨_,e⟩ ⟨⟨s2.extBut _ _ AX (s1.extBut _ _ AX hS.g),hS.d,hS.f⟩,g2'⟩ λb o' nb e=>?_⟩;have U7:b≠I:=λz=>nb (by simp[z]);exact s2.extBut _ _ U7 (s1.extBut _ _ U7 e)
 done:=λs Q E st hQ=>by
  obtain⟨hS,hI⟩:=st;have pz:(pickOrder (w.params.setOrder S ep) es).size=es.size:=by have:=(xI (w.params.setOrder S ep) es).length_eq;simpa using this
  have e:(pickOrder (w.params.setOrder S ep) es)[es.size]?=none:=by simp;lia
  refine qm hI (qo hI hS ?_);refine(show wpAny _ _ (setNext S 0 es.size ep >>= _) _ _ _ from aG (DC hS hb ?_));rw[e];exact Ex (by simp[hh]) hI λh' a hk he=>⟨a,rfl,he,hQ h' s.toks λb o' nb e=>hk b o' (λz=>nb (by simp[z])) e⟩
 self:=λi s Q E st hQ=>Ew st.2 hQ
abbrev ZT(h:Heap)(T:JY)(ord:List Nat):Prop:=h.get? T=some {cls:=.type "tuple",data:=.seq (ord.map λ(i:Nat)=>rawInt i).toArray}
def Av(es:Array (Int×JZ))(ord:List Nat):Array (Int×JZ):=(ord.map λj=>es.getD j (0,.none)).toArray
def N8(hh:A.handled=none){T:JY}(AX:S≠I)(hnT:T≠I){ord:List Nat}(hp:ord.Perm (List.range es.size)):
  Walks prog w A I [I,S,T] [I] es.size (DB (Av es ord)) (λi h=>B8 h S o es ep t/\ZT h T ord/\xH h I (.ref T) i S es.size ep)where
 sub:=λb hb=>by simp at hb;simp[hb]
 frame:=λi h h' st hk=>⟨⟨hk S (by simp) _ st.1.g,st.1.d,st.1.f⟩,hk T (by simp) _ st.2.1,hk I (by simp) _ st.2.2⟩
 item:=λi s Q E hi st hQ=>by
  obtain⟨hS,hT,hI⟩:=st;have ol:ord.length=es.size:=by have:=hp.length_eq;simpa using this
  have eo:ord[i]?=some (ord[i]'(by lia)):=by simp[show i<ord.length by lia]
  have jl:ord[i]'(by lia)<es.size:=jL.mp (hp.mem_iff.mp (jJ _));refine qm hI (qo hI hS ?_);refine(show wpAny _ _ (seqItems? (.ref T) >>= _) _ _ _ from aG (l7 hT rfl ?_));have ea:(ord.map λ(i:Nat)=>rawInt i).toArray[i]?=some (rawInt (ord[i]'(by lia):Nat)):=by simp[show i<ord.length by lia]
  dsimp only;rw[ea];refine(show wpAny _ _ (setNextDrawn S ((ord[i]'(by lia):Nat):Int).toNat ep >>= _) _ _ _ from aG ?_);rw[show(((ord[i]'(by lia):Nat):Int)).toNat=ord[i]'(by lia) by lia];unfold setNextDrawn;refine aG (rX hS.g hS.d hS.f ?_);dsimp only;rw[aK (by simp)];have ee:es[ord[i]'(by lia)]?=some ((es[ord[i]'(by lia)]).1,(es[ord[i]'(by lia)]).2):=by simp[jl]
  rw[ee];refine aS ?_;refine aG (kW hI (by simp) λh1 g1 s1=>?_);have Wi:xH h1 I (.ref T) (i+1) S es.size ep:=g1;refine aS ⟨_,rfl,hQ _ h1 s.toks ⟨(es[ord[i]'(by lia)]).1,?_⟩ ⟨⟨s1.extBut _ _ AX hS.g,hS.d,hS.f⟩,s1.extBut _ _ hnT hT,Wi⟩ λb o' nb e=>s1.extBut _ _ (λz=>nb (by simp[z])) e⟩;unfold Av;simp[show i<ord.length by lia,Array.getD,jl]
 done:=λs Q E st hQ=>by
  obtain⟨hS,hT,hI⟩:=st;have ol:ord.length=es.size:=by have:=hp.length_eq;simpa using this
  refine qm hI (qo hI hS ?_);refine(show wpAny _ _ (seqItems? (.ref T) >>= _) _ _ _ from aG (l7 hT rfl ?_));have ea:(ord.map λ(i:Nat)=>rawInt i).toArray[es.size]?=none:=by simp;lia
  dsimp only;rw[ea];refine aG (kW hI (by simp) λh1 g1 s1=>?_);have Wi:xH h1 I (rawInt 0) es.size S es.size ep:=g1;refine Ex (s:={s with heap:=h1}) (by simp[hh]) Wi λh' a hk he=>⟨a,rfl,he,hQ h' s.toks λb o' nb e=>?_⟩
  have U7:b≠I:=λz=>nb (by simp[z]);exact hk b o' U7 (s1.extBut _ _ U7 e)
 self:=λi s Q E st hQ=>Ew st.2.2 hQ
def N9{ord:List Nat}(hp:ord.Perm (List.range es.size)):(Av es ord).toList.Perm es.toList:=by
 unfold Av;refine(hp.map _).trans (List.Perm.of_eq ?_);refine oo (by simp) λi h1 h2=>?_;have:i<es.size:=by simpa using h1
 simp[Array.getD,this]
def TH{Q:Bool->JX->Prop}(hT:s.TypeIs (.ref S) "set")(h:Q false s):wpAny (model prog w) A (Builtin.List.listLengthHint (.ref S)) Q E s:=by
 unfold Builtin.List.listLengthHint;refine aG (mZ hT PySem.F.slot_set_len.lookup ?_);generalize Yr:("set.__len__":String)=nm
 wp_delta
 rw[show splitId nm=some ("set","__len__")from by subst Yr;decide +kernel];subst Yr;refine aG (wc (T:="set") (b:=true) hT (by rw[wg];kernel_rfl) (ky (λz=>absurd z (by decide)) (λ_=>ky (λ_=>?_) (λz=>absurd (by decide +kernel) z))));exact aG (tX hT (aS h))
def TJ(hh:A.handled=none)(hS:B8 s.heap S o es ep t)(hex:o.ExactSet)(tk:Bw (!Es w) t)(hz:es.size<=sizeLine)(q:∀(I:JY)(fp:List JY)(Wk:Array (Int×JZ))(St:Nat->Heap->Prop)(h':Heap)(d:_),Walks prog w A I fp [I] es.size (DB Wk) St->St 0 h'->Wk.toList.Perm es.toList->(∀b o,s.heap.get? b=some o->h'.get? b=some o)->s.heap.objs.size<=I->(∀b∈fp,b=S\/s.heap.objs.size<=b)->Q (.ref I) {s with heap:=h',drawn:=d}):
  wpAny (model prog w) A (pyIter (.ref S)) Q E s:=by
 have ty:s.TypeIs (.ref S) "set":=⟨o,hS.g,hex.1⟩;have lS:=bC hS.g;refine Dx ty PySem.F.slot_set_iter (jo PySem.F.slot_set_iter ty B7 ?_ (PySem.F.args_set_iter_1 _));refine(show wpAny _ _ (Builtin.Frozenset.sizeOf S >>= _) _ _ s from aG ?_);unfold Builtin.Frozenset.sizeOf setEntries;refine aG (aG (rX hS.g hS.d hS.f (aS (aS ?_))));refine aG ?_;unfold setDrawn;refine aG (rX hS.g hS.d hS.f ?_);dsimp only;refine aG (qk (aS ?_));by_cases c:(!Es w&&(!t.plain&&decide (es.size>1)))=true
 .refine(show wpAny _ _ (if(!Es w&&(!t.plain&&decide (es.size>1)))=true then _ else _) _ _ _ from ?_);rw[aL c];refine aG (yG es.size (List.range es.size) s (by simp) λord d hp=>?_);have ol:ord.length=es.size:=by have:=hp.length_eq;simpa using this
  refine aG (EC (aG ?_) (by rw[aJ,ol];exact hz));unfold setEpoch;have g1:(s.heap.push {cls:=.type "tuple",data:=.seq (ord.map λ(i:Nat)=>rawInt i).toArray}).get? S=some o:=bG _ hS.g;refine aG (rX g1 hS.d hS.f (aS ?_));refine aG ?_;unfold newFields;refine jI ?_ (by size_fits);have z1:(s.heap.push {cls:=.type "tuple",data:=.seq (ord.map λ(i:Nat)=>rawInt i).toArray}).objs.size=s.heap.objs.size+1:=ib ..;refine aS ⟨_,rfl,"set_iterator",_,⟨_,bK _ rfl,rfl⟩,gy.lookup,?_⟩;refine q _ _ (Av es ord) _ _ d (N8 hh (o:=o) (t:=t) (T:=s.heap.objs.size) (by rw[z1];exact cg (rW lS)) (by rw[z1];exact cg (om _)) hp) ⟨⟨bG _ g1,hS.d,hS.f⟩,bG _ (bK _ rfl),bK _ rfl⟩ (N9 hp) (λb o e=>bG _ (bG _ e)) (by rw[z1];exact gq _) λb hb=>?_;simp only[au,bE,dJ]at hb;rcases hb with rfl|rfl|rfl
  .exact .inr (by rw[z1];exact gq _)
  .exact .inl rfl
  exact .inr (ae _)
 refine(show wpAny _ _ (if(!Es w&&(!t.plain&&decide (es.size>1)))=true then _ else _) _ _ _ from ?_);rw[aK c];refine aG (aS (aG ?_));unfold setEpoch;refine aG (rX hS.g hS.d hS.f (aS (aG ?_)));unfold newFields;refine jI ?_ (by size_fits);refine aS ⟨_,rfl,"set_iterator",_,⟨_,bK _ rfl,rfl⟩,gy.lookup,?_⟩;have nS:S≠s.heap.objs.size:=cg lS;have mem:∀b∈[s.heap.objs.size,S],b=S\/s.heap.objs.size<=b:=λb hb=>by
  simp only[au,bE,dJ]at hb;rcases hb with rfl|rfl
  .exact .inr (ae _)
  exact .inl rfl
 by_cases cb:Es w=true
 .exact q _ _ (pickOrder (w.params.setOrder S ep) es) _ _ s.drawn (N7 hh (o:=o) (t:=t) nS cb) ⟨⟨bG _ hS.g,hS.d,hS.f⟩,bK _ rfl⟩ (xI _ _) (λb o e=>bG _ e) (ae _) mem
 have cb':Es w=false:=by cases h:Es w<;>simp_all
 have cd:(!t.plain&&decide (es.size>1))=false:=by
  rw[cb']at c;cases h:(!t.plain&&decide (es.size>1))with
  |false=>rfl
  |true=>rw[h]at c;exact absurd rfl c
 exact q _ _ es _ _ s.drawn (K3 hh (o:=o) nS tk cb' cd) ⟨⟨bG _ hS.g,hS.d,hS.f⟩,bt _,0,bK _ rfl,.inl ⟨rfl,rfl⟩⟩ (.refl _) (λb o e=>bG _ e) (ae _) mem
section
open PySem.W
def Hr(hS:B8 s.heap S o es ep t)(hex:o.ExactSet)(tk:Bw (!Es w) t)(hz:es.size<=sizeLine)(hh:A.handled=none)(q:∀(g:Heap)(tk:Nat)(d:_)(vs:List JZ),è s.heap g->s.heap.objs.size<=g.objs.size->vs.Perm (es.toList.map (·.2))->R vs {s with heap:=g,toks:=tk,drawn:=d}):wpAny (model prog w) A (collect (.ref S)) R E s:=by
 have lS:=bC hS.g;unfold collect;refine aG (z9 (oN entry_proto_collect' ?_));rw[um PySem.F.plain_proto_collect _];refine(show wpAny _ A.in1 (newList [] >>= λx=>again (.builtin "list.__iadd__" ⟨[x,.ref S],[]⟩)) _ _ s from aG (jI (aS ⟨lA DU _,oN entry_list_iadd' ?_⟩)));rw[um DU _];have e1:(s.heap.push {cls:=.type "list",data:=.seq ([]:List JZ).toArray}).get? s.heap.objs.size=some {cls:=.type "list",data:=.seq #[]}:=bK _ rfl;have z1:(s.heap.push {cls:=.type "list",data:=.seq ([]:List JZ).toArray}).objs.size=s.heap.objs.size+1:=ib ..;refine(show wpAny _ A.in1 (Builtin.List.listExtendWith (.ref s.heap.objs.size) (.ref S) (.ref s.heap.objs.size)) _ _ _ from ?_);have ZQ:B8 (s.heap.push {cls:=.type "list",data:=.seq ([]:List JZ).toArray}) S o es ep t:=⟨bG _ hS.g,hS.d,hS.f⟩;unfold Builtin.List.listExtendWith;refine aG (tX (T:="set") ⟨o,ZQ.g,hex.1⟩ ?_);have n1:Builtin.List.listSameRef (.ref s.heap.objs.size) (.ref S)=false:=by simp[Builtin.List.listSameRef];exact ju lS
 have n2:(Value.type "set"==Value.type "list")=false:=by decide
 have n3:(Value.type "set"==Value.type "tuple")=false:=by decide
 simp only[n1,n2,n3,Bool.or_false,ur,cm];refine aG (TJ (A:=A.in1) (by simp[hh]) ZQ hex tk hz λI fp Wk St h' d W st pm grow lI fpS=>?_);have sf:s.heap.objs.size∉fp:=λz=>by
  rcases fpS _ z with e|e
  .exact absurd e (ju lS)
  rw[z1]at e;exact absurd e (Nat.not_succ_le_self _)
 have sI:s.heap.objs.size≠I:=λz=>by rw[z1,<-z]at lI;exact absurd lI (Nat.not_succ_le_self _)
 have gS:h'.get? S=some o:=grow _ _ ZQ.g;have key:∀(h:Heap)(c tk:Nat),St 0 h->(∀b o,b≠s.heap.objs.size->h'.get? b=some o->h.get? b=some o)->h.get? s.heap.objs.size=some {cls:=.type "list",data:=.seq #[] c} ->
   codeAny (model prog w) A (.builtin "list.extend.loop" ⟨[.ref s.heap.objs.size,.ref I,.ref s.heap.objs.size],[]⟩) (λ(f:Result)(z:JX)=>∃(g:Heap)(tk:Nat)(ÿ:Array JZ)(c:Nat),f=.ok (.ret (.ref s.heap.objs.size))/\z={s with heap:=g,toks:=tk,drawn:=d}/\è s.heap g/\g.get? s.heap.objs.size=some {cls:=.type "list",dict:=none,data:=.seq ÿ c,slots:=#[]}/\ItemsOf (DB Wk) ÿ es.size) {s with heap:=h,toks:=tk,drawn:=d}:=by
  intro h c tk Bt hk hl;refine Jx W.toS hz s.heap.objs.size sf _ es.size 0 _ #[] c rfl (bt _) Bt hl (ItemsOf.nil _) λs' i9 c' hm Rt Ec=>?_;rw[Moved.eq_with hm];refine⟨s'.heap,s'.toks,i9,c',rfl,rfl,λb o' e=>hm.heap b o' (λz=>?_) (hk b o' (cg (bC e)) (grow b o' (bG _ e))),Rt,Ec⟩;rcases au.mp z with z|z
  .exact absurd (bC e) (by rw[z];exact gR _)
  have:=bC e;rw[bX.mp z]at this;rw[z1]at lI;exact absurd (Nat.lt_of_succ_le lI) (Nat.lt_asymm this)
 have e2:h'.get? s.heap.objs.size=some {cls:=.type "list",data:=.seq #[]}:=grow _ _ e1;have fin:∀(f:Result)(z:JX),(∃(g:Heap)(tk:Nat)(ÿ:Array JZ)(c:Nat),f=.ok (.ret (.ref s.heap.objs.size))/\z={s with heap:=g,toks:=tk,drawn:=d}/\è s.heap g/\g.get? s.heap.objs.size=some {cls:=.type "list",dict:=none,data:=.seq ÿ c,slots:=#[]}/\ItemsOf (DB Wk) ÿ es.size)->f=.ok (.ret (.ref s.heap.objs.size))/\wpAny (model prog w) A (do
   let l <- load s.heap.objs.size
   match l.data with
   |.seq xs _=>pure xs.toList
   |_=>unsupported "internal:collect") R E z:=by
  rintro f z ⟨g,tk,ÿ,c,rfl,rfl,hg,hl,ha⟩;refine⟨rfl,aG (wo hl (aS (q g tk d ÿ.toList hg (gT (bC hl)) ?_)))⟩;refine List.Perm.trans (List.Perm.of_eq ?_) (pm.map (·.2));have wl:Wk.size=es.size:=by have:=pm.length_eq;simpa using this
  refine oo (by rw[aJ,fq,fq,ha.1,wl]) λi i1 i2=>?_;obtain⟨hh',e⟩:=ha.2 i ÿ.toList[i] (by simp at i1;simp[i1]);have iw:i<Wk.size:=(zR.mp e).1;have e':=(zR.mp e).2;simp[e']
 refine aG (gp (TH ⟨o,gS,hex.1⟩ ?_));refine ky (λ_=>?_) (λ_=>aS ⟨lA PySem.F.plain_extend_loop _,jv (key h' 0 s.toks st (λb o _ e=>e) e2) λf z hz=>?_⟩)
 .refine aG (iD (aG ?_));refine(show wpAny _ _ (updateSeq s.heap.objs.size (·.push .none) >>= λ_=>updateSeq s.heap.objs.size (·.pop)) _ _ _ from aG (zq e2 rfl ?_));have e3:=xv (Obj.mapSeq (·.push Value.none)) e2 rfl;refine zq (hz:=by seq_fits) e3 rfl ?_;have e4:=xv (Obj.mapSeq (·.pop)) e3 rfl;have oth:∀b o',b≠s.heap.objs.size->h'.get? b=some o'->((h'.update s.heap.objs.size (Obj.mapSeq (·.push Value.none))).update s.heap.objs.size (Obj.mapSeq (·.pop))).get? b=some o':=λb o' nb e=>(tI _ _ (bS nb)).trans ((tI _ _ (bS nb)).trans e);refine aS ⟨lA PySem.F.plain_extend_loop _,jv (key _ _ s.toks (W.frame 0 _ _ st λb hb o' e=>oth b o' (λz=>sf (z▸hb)) e) oth e4) λf z hz=>?_⟩;obtain⟨rfl,x⟩:=fin f z hz;exact x
 obtain⟨rfl,x⟩:=fin f z hz;exact x
end
def â.drew(I:â X bv Z H s)(d):â X bv Z H {s with drawn:=d}:=by cases I;constructor<;>assumption
def yH(P:Ja)(w:Jb)(a:JY)(ks:List ä):HO:=.ext λh=>vQ (aw P w) h a (mE ks) (dd ks).length
def U8(P:Ja)(w:Jb)(K:Ni):List V->Hp->VK->Prop:=λxs H Q=>∃(p:JY)(ks:List ä),xs=[.ref p]/\(aX K H p (ks.map kV)\/bO K H p (ks.map kV))/\ks.length+1<scanBound/\∀q,H q=none->Q (.ref q) (ü H q (yH P w q ks.reverse))
def OA(K:Ni)(hK:X.K=K:=by rfl)(hc:X.calm=true:=by rfl):dt X (.type "set") (U8 X.prog X.w K):=by
 subst hK;intro bv s Z H xs us Q I r h;obtain⟨p,ks,rfl,hs,hb,q⟩:=h;obtain⟨u,rfl,rx⟩:=é r;cases rx;have hn:H s.heap.objs.size=none:=I.cI.fresh (ae _);have fin:∀(h':Heap)(tk:Nat),vQ (aw X.prog X.w) h' s.heap.objs.size (mE ks.reverse) (dd ks.reverse).length->(∀b o,s.heap.get? b=some o->h'.get? b=some o)->EP X bv Z Q (.ref s.heap.objs.size) {s with heap:=h',toks:=tk}:=by intro h' tk hS kp;have e0:=hS;obtain⟨o,_,_,_,ho,_⟩:=e0;exact⟨.ref s.heap.objs.size,_,I.laid (o:=yH X.prog X.w s.heap.objs.size ks.reverse) kp (ae _) ⟨hS,⟨o,ho⟩,λh1 h2 ⟨o,es,ep,t,ho,rr⟩ hk=>⟨o,es,ep,t,hk _ ho,rr⟩⟩,rfl,q _ hn⟩
 rcases hs with hs|hs
 .obtain⟨aa,rv,pl,hz⟩:=I.list hs;have hl:=rv.length;rw[aJ]at hl;exact yF (I.ok.hd hc) (.inl ⟨rfl,pl.isList⟩) rv (by lia) fin
 obtain⟨aa,rv,pl,hz⟩:=I.tuple hs;have hl:=rv.length;rw[aJ]at hl;exact yF (I.ok.hd hc) (.inr ⟨rfl,pl⟩) rv (by lia) fin
def Mh:∀(ks:List ä),(dd ks).Nodup
 |[]=>zp
 |k::ks=>by
  unfold dd;by_cases c:mE ks k=true
  .rw[aL c];exact Mh ks
  rw[aK c];exact ic.mpr ⟨λz=>c (mF.mpr (Ei.mp z)),Mh ks⟩
section
open PySem.W
def ê:JZ->Int
 |.int n _=>n
 |_=>0
def Hs:∀{vs:List JZ},(∀v∈vs,∃n t,v=Value.int n t)->aq ((vs.map ê).map V.int) vs
 |[],_=>.nil
 |v::vs,h=>by obtain⟨n,t,rfl⟩:=h v bp;exact .cons ⟨t,rfl⟩ (Hs λu hu=>h u (bU _ hu))
def Hu{α:Type}[DecidableEq α]:∀(l m:List α),l.Nodup->(∀x∈l,x∈m)->m.length<=l.length->l.Perm m
 |[],m,_,_,h=>by have:m=[]:=Je.mp (by simpa using h);rw[this]
 |a::l,m,nd,sub,h=>by
  obtain⟨n1,n2⟩:=ic.mp nd;have am:=sub a bp;have pe:=List.perm_cons_erase am;refine(List.Perm.cons a (Hu l (m.erase a) n2 (λx hx=>?_) ?_)).trans pe.symm
  .exact(List.mem_erase_of_ne (λe=>n1 (by rw[<-e];exact hx))).mpr (sub x (bU _ hx))
  rw[aAm am];simp at h;lia
def U9(P:Ja)(w:Jb):List V->Hp->VK->Prop:=λxs H Q=>∃(p:JY)(ns:List Int),xs=[.ref p]/\H p=some (yH P w p (ns.map Sum.inl).reverse)/\(dd (ns.map Sum.inl).reverse).length<64/\∀(ys:List Int)(q:JY),ys.Pairwise (·<·)->(∀x,x∈ys↔x∈ns)->H q=none->Q (.ref q) (ü H q (.lst (ys.map V.int)))
def Ey(hu:X.A.units+16<cLine)(hc:X.calm=true:=by rfl):dt X (.builtin "sorted") (U9 X.prog X.w):=by
 intro bv s Z H xs us Q I r h;obtain⟨S,ns,rfl,hp,Ro,q⟩:=h;obtain⟨u,rfl,rx⟩:=é r;cases rx;obtain⟨⟨o,es,ep,t,ho,hex,hd,TF,yn,hb,hf,hn,tk⟩,_⟩:=I.cI S _ hp;have hS:B8 s.heap S o es ep t:=⟨ho,hd,hf⟩;have hz:es.size<=sizeLine:=fits_of_scanBound hb;have Uj:∀{k:ä},k∈(ns.map Sum.inl).reverse↔∃n∈ns,Sum.inl n=k:=λ{k}=>by rw[List.mem_reverse,ao]
 have one:∀v∈es.toList.map (·.2),∃n t,v=Value.int n t/\n∈ns:=λv hv=>by obtain⟨e,he,rfl⟩:=ao.mp hv;obtain⟨⟨k,hk,_⟩,_⟩:=TF e he;have:=mF.mp ((yn k).mpr ⟨e,he,hk⟩);obtain⟨n,J4,rfl⟩:=Uj.mp this;obtain⟨t,et⟩:=(show ∃t,e.2=Value.int n t from Ke hk);exact⟨n,t,et,J4⟩
 have all:∀n∈ns,∃t,Value.int n t∈es.toList.map (·.2):=λn J4=>by obtain⟨e,he,hk⟩:=(yn (Sum.inl n)).mp (mF.mpr (Uj.mpr ⟨n,J4,rfl⟩));obtain⟨t,et⟩:=(show ∃t,e.2=Value.int n t from Ke hk);exact⟨t,by rw[<-et];exact ao.mpr ⟨e,he,rfl⟩⟩
 have facts:∀vs:List JZ,vs.Perm (es.toList.map (·.2))->aq ((vs.map ê).map V.int) vs/\vs.length<64/\(∀x,x∈vs.map ê↔x∈ns)/\(vs.map ê).Nodup:=λvs hv=>by
  have h1:∀v∈vs,∃n t,v=Value.int n t/\n∈ns:=λv h=>one v (hv.mem_iff.mp h);have hl:vs.length=(dd (ns.map Sum.inl).reverse).length:=by rw[hv.length_eq,aJ,fq,hn]
  have mem:∀x,x∈vs.map ê↔x∈ns:=λx=>by
   constructor
   .intro h;obtain⟨v,rf,rfl⟩:=ao.mp h;obtain⟨n,t,rfl,J4⟩:=h1 v rf;exact J4
   intro h;obtain⟨t,ht⟩:=all x h;exact ao.mpr ⟨_,hv.mem_iff.mpr ht,rfl⟩
  refine⟨Hs λv h=>let⟨n,t,e,_⟩:=h1 v h;⟨n,t,e⟩,by lia,mem,?_⟩;have sub:∀k∈dd (ns.map Sum.inl).reverse,k∈(vs.map ê).map (Sum.inl:Int->ä):=λk hk=>by obtain⟨n,J4,rfl⟩:=Uj.mp (Ei.mp hk);exact ao.mpr ⟨n,(mem n).mpr J4,rfl⟩
  have pm:(dd (ns.map Sum.inl).reverse).Perm ((vs.map ê).map (Sum.inl:Int->ä)):=Hu _ _ (Mh _) sub (by rw[aJ,aJ,hl];exact ae _);have nd:=pm.nodup_iff.mp (Mh _);exact(gm.mp nd).imp λh e=>h (by rw[e])
 have SB:∀vs,vs.Perm (es.toList.map (·.2))->∃κ,uG X.prog X.w X.A.in1.in1 s.heap vs (λi j=>cZ (((vs.map ê).map PyData.int).getD i .none) (((vs.map ê).map PyData.int).getD j .none)) κ:=λvs hv=>by
  obtain⟨rv,l64,_,_⟩:=facts vs hv;refine pC (by rw[aJ,aJ]) (λj hj=>?_) (λd Bs=>by obtain⟨n,_,rfl⟩:=ao.mp Bs;rfl) (λd Bs=>by obtain⟨n,_,rfl⟩:=ao.mp Bs;exact bt _) (MY _) (by show X.A.units+1+1+12<cLine;lia);obtain⟨x,h1,h2⟩:=rv.back (cT hj);rw[bh]at h1;cases en:(vs.map ê)[j]? with
  |none=>rw[en]at h1;cases h1
  |some n =>
   rw[en]at h1;obtain rfl:V.int n=x:=bR h1;obtain⟨t,ht⟩:=h2;have er:((vs.map ê).map PyData.int).getD j .none=.int n:=(by rw[lr,bh,en];rfl);rw[ht,er];exact⟨_,.int n t⟩
 refine uH (λvs _=>vs.Perm (es.toList.map (·.2))) _ (λvs _ hv=>(facts vs hv).2.1) (λR k=>Hr hS hex tk hz (by simp[I.ok.hd hc]) λg tk d vs hg hz hv=>k vs g tk d hv hg hz) (λvs _=>SB vs) λvs p h' tk d e l hv hpm ap g TK hl=>?_;obtain⟨rv,l64,mem,nd⟩:=facts vs hv;have ml:(vs.map ê).length=vs.length:=aJ ..;generalize vs.map ê=ms at ap rv mem nd ml;obtain⟨z1,z2⟩:=pE hpm ap ms ml (0:Int) (λx y=>x<=y) (λi j hi hj h0=>by
  have oW:i<ms.length:=by lia
  have Ol:j<ms.length:=by lia
  simp[oW,Ol,cZ]at h0
  simpa[oW,Ol]using h0)
 have uk:∀i∈p.toList,i<(ms.map V.int).length:=by
  intro i hi;have:=(DR.mp hpm.pm).mem_iff.mp hi;have:i<vs.length:=by simpa using this
  rw[aJ];lia
 have rp:=rv.pick p.toList uk;have ev:(p.toList.map λi=>(ms.map V.int).getD i V.cX)=(p.toList.map λi=>ms.getD i 0).map V.int:=by rw[bB];refine iY λi hi=>?_;have oW:=uk i hi;rw[aJ]at oW;show(ms.map V.int).getD i V.cX=V.int (ms.getD i 0);rw[lr,lr,bh,cT oW];rfl
 rw[ev]at rp;have strict:(p.toList.map λi=>ms.getD i 0).Pairwise (·<·):=(z2.and (z1.nodup_iff.mpr nd)).imp λ⟨a,b⟩=>by lia
 refine⟨.ref l,_,(I.drew d).laid (t':=tk) (o:=.lst ((p.toList.map λi=>ms.getD i 0).map V.int)) (λb o eb=>g b o eb) TK ⟨by rw[aJ,aJ,fq,hpm.sz,jM];lia,_,e,rp,hl⟩,rfl,q _ _ strict (λx=>z1.mem_iff.trans (mem x)) (I.cI.fresh TK)⟩
def qp(P:Ja)(w:Jb)(K:Ni)(hP:X.prog=P:=by rfl)(hw:X.w=w:=by rfl)(hK:X.K=K:=by rfl)(hc:X.calm=true:=by rfl):dt X (.type "set") (U8 P w K):=by subst hP hw;exact OA K hK hc
def Ez(P:Ja)(w:Jb)(hu:X.A.units+16<cLine)(hP:X.prog=P:=by rfl)(hw:X.w=w:=by rfl)(hc:X.calm=true:=by rfl):dt X (.builtin "sorted") (U9 P w):=by subst hP hw;exact Ey hu hc
end
def ZU(P:Ja)(w:Jb):List V->Hp->VK->Prop:=λxs H Q=>∃(p:JY)(ks:List ä),xs=[.ref p]/\H p=some (yH P w p ks)/\Q (.int (dd ks).length) H
def xJ(P:Ja)(w:Jb)(hP:X.prog=P:=by rfl)(hw:X.w=w:=by rfl):dt X (.builtin "len") (ZU P w):=by
 subst hP hw;intro bv s Z H xs us Q I r h;obtain⟨p,ks,rfl,hp,q⟩:=h;obtain⟨u,rfl,rx⟩:=é r;cases rx;obtain⟨⟨o,es,ep,t,ho,hex,hd,TF,yn,hb,hf,hn,_⟩,_⟩:=I.cI p _ hp;refine PySem.call_len_set ho hex hd hf ?_ ⟨.int _,H,I.tok _,⟨_,by rw[hn]⟩,q⟩;have:scanBound<2 ^ 63:=by decide
 lia
section
open PySem.W
variable{κ:SortKind}
variable{G:Keyed->Prop}
section
variable{lo:Nat}{lt:Nat->Nat->Bool}
end
section
variable{lo:Nat}{lt:Nat->Nat->Bool}
end
section
variable{lt:Nat->Nat->Bool}
end
end
end L2
namespace My
def P(a k:Int):Int:=a ^ k.toNat%97
def ZV(a k:Int):0<=P a k:=gn _ (by decide)
def Wj(a k:Int):P a k<97:=gQ _ (by decide)
def ZW:∀n<97,0<n->n ^ 95%97*n%97=1/\0<n ^ 95%97:=by decide
def VA{a:Int}(h0:0<a)(h1:a<97):P a 95*a%97=1:=by
 obtain⟨n,rfl⟩:∃n:Nat,a=n:=⟨a.toNat,by lia⟩;have h:=(ZW n (by lia) (by lia)).1;show((n:Int) ^ 95%97)*n%97=1;have:(((n ^ 95%97*n%97:Nat)):Int)=1:=by rw[h];rfl
 rw[<-this];norm_cast
def OB{a:Int}(h0:0<a)(h1:a<97):0<P a 95:=by
 obtain⟨n,rfl⟩:∃n:Nat,a=n:=⟨a.toNat,by lia⟩;have h:=(ZW n (by lia) (by lia)).2;show 0<((n:Int) ^ 95%97);have:(0:Int)<((n ^ 95%97:Nat):Int):=by lia
 simpa using this
def Hw(x:Int)(n:Nat):(x%97) ^ n%97=x ^ n%97:=by
 induction n with
 |zero=>simp
 |succ n ih=>rw[eW,eW,lB,ih,Dd _ (EI _),<-lB]
def sq(q:Int):q ^ 2=q*q:=by rw[eW,eW];simp
def OC{p q a:Int}{l k:Int}(hl:0<l)(ho:l%2=1)(h:p*q ^ l.toNat%97=P a k):(p*q%97)*(q*q%97) ^ (l/2).toNat%97=P a k:=by
 rw[<-h];have e:l.toNat=2*(l/2).toNat+1:=by lia
 rw[e,eW,wj];rw[lB,Dd _ (EI _)];have e2:(q*q%97) ^ (l/2).toNat%97=(q ^ 2) ^ (l/2).toNat%97:=by rw[sq];exact Hw _ _
 rw[e2,<-lB]
 congr 1
 rw[Int.mul_assoc,Int.mul_comm q]
def K4{p q a:Int}{l k:Int}(hl:0<l)(ho:l%2≠1)(h:p*q ^ l.toNat%97=P a k):p*(q*q%97) ^ (l/2).toNat%97=P a k:=by
 rw[<-h];have e:l.toNat=2*(l/2).toNat:=by lia
 rw[e,wj,lB];have e2:(q*q%97) ^ (l/2).toNat%97=(q ^ 2) ^ (l/2).toNat%97:=by rw[sq];exact Hw _ _
 rw[e2,<-lB]
def Hx{a k:Int}:(1:Int)*a ^ k.toNat%97=P a k:=by rw[Int.one_mul];rfl
def OD{p q a k l:Int}(hl:l<=0)(p0:0<=p)(p1:p<97)(h:p*q ^ l.toNat%97=P a k):p=P a k:=by
 have e:l.toNat=0:=by lia
 rw[<-h,e,EF,Int.mul_one];lia
end My
namespace My
def OE(a:Nat):Nat:=((List.range 96).find? λs=>5 ^ s%97==a).getD 0
def Aw:∀a<97,0<a->OE a<96/\5 ^ OE a%97=a:=by decide +kernel
def TL:∀s<96,OE (5 ^ s%97)=s:=by decide +kernel
def K5(a:Nat)(ha:a<97)(h0:0<a)(s:Nat)(hs:s<OE a):5 ^ s%97≠a:=by intro h;have h1:=TL s (by have:=(Aw a ha h0).1;lia);rw[h]at h1;lia
def ex(a:Int):Int:=OE a.toNat
def QF(a:Int):0<=ex a:=Int.natCast_nonneg _
def ZX{a:Int}(h0:0<a)(h1:a<97):ex a<=95:=by have:=(Aw a.toNat (by lia) (by lia)).1;unfold ex;lia
def up(k:Int):Int:=5 ^ k.toNat%97
def ZY{a:Int}(h0:0<a)(h1:a<97):up (ex a)=a:=by
 have h:=(Aw a.toNat (by lia) (by lia)).2;unfold up ex;rw[dh];have:((5 ^ OE a.toNat%97:Nat):Int)=(a.toNat:Int):=by rw[h]
 rw[show a=(a.toNat:Int) by lia,dh,<-this];norm_cast
def ZZ{a s:Int}(h0:0<a)(h1:a<97)(hs:0<=s)(hl:s<ex a):up s≠a:=by
 intro h;have:=K5 a.toNat (by lia) (by lia) s.toNat (by unfold ex at hl;lia);apply this;unfold up at h;have h2:((5 ^ s.toNat%97:Nat):Int)=a:=by rw[<-h];norm_cast
 lia
def Wm{a b:Int}(h0:0<a)(h1:a<97)(g0:0<b)(g1:b<97):0<a*b%97:=by
 have h:∀a<97,0<a->∀b<97,0<b->0<(a*b%97:Nat):=by decide +kernel
 have q:=h a.toNat (by lia) (by lia) b.toNat (by lia) (by lia);have:a*b=((a.toNat*b.toNat:Nat):Int):=by rw[D0,Df (by lia),Df (by lia)]
 rw[this];lia
def TM{s r:Int}(hs:0<=s)(h:r=up s):r*5%97=up (s+1):=by
 subst h;unfold up;have e:(s+1).toNat=s.toNat+1:=by lia
 rw[e,eW,lB,Dd _ (EI _),<-lB]
def TN:up 0=1:=by decide
end My
namespace My
def å:Nat->(Nat->Int)->Int
 |0,_=>0
 |n+1,f=>å n f+f n
def bP{f g:Nat->Int}:∀(n:Nat),(∀j,j<n->f j=g j)->å n f=å n g
 |0,_=>rfl
 |n+1,h=>by rw[å,å,bP n λj hj=>h j (by lia),h n (by lia)]
def fL(c d:Int)(f g:Nat->Int):∀(n:Nat),å n (λj=>c*f j+d*g j)=c*å n f+d*å n g
 |0=>by simp[å]
 |n+1=>by rw[å,å,å,fL c d f g n];grind
def xK(c:Int)(f:Nat->Int)(n:Nat):å n (λj=>c*f j)=c*å n f:=by
 have h:=fL c 0 f f n;have e:å n (λj=>c*f j)=å n (λj=>c*f j+0*f j):=bP n λj _=>by grind
 rw[e,h];grind
def Ax(f:Nat->Int):∀(n:Nat),å (n+1) f=f 0+å n (λj=>f (j+1))
 |0=>by simp[å]
 |n+1=>by rw[å,Ax f n,å];lia
def uI{f:Nat->Int}:∀(n:Nat),(∀j,j<n->f j=0)->å n f=0
 |0,_=>rfl
 |n+1,h=>by rw[å,uI n λj hj=>h j (by lia),h n (by lia)];rfl
def DD{f:Nat->Int}(p:Nat):∀(n:Nat),p<n->(∀j,j<n->j≠p->f j=0)->å n f=f p
 |0,h,_=>by lia
 |n+1,h,hz=>by
  rw[å];by_cases e:p=n
  .subst e;rw[uI p λj hj=>hz j (by lia) (by lia)];lia
  rw[DD p n (by lia) λj hj hn=>hz j (by lia) hn,hz n (by lia) (by lia)];lia
def xM{f:Nat->Int}(p q:Nat):∀(n:Nat),p<q->q<n->(∀j,j<n->j≠p->j≠q->f j=0)->å n f=f p+f q
 |0,_,h,_=>by lia
 |n+1,TQ,h,hz=>by
  rw[å];by_cases e:q=n
  .subst e;rw[DD p q TQ λj hj hn=>hz j (by lia) hn (by lia)]
  rw[xM p q n TQ (by lia) λj hj hn hm=>hz j (by lia) hn hm,hz n (by lia) (by lia) (by lia)];lia
def mI{f:Nat->Int}:∀(n:Nat),(∀j,j<n->(97:Int) ∣ f j)->(97:Int) ∣ å n f
 |0,_=>⟨0,by simp[å]⟩
 |n+1,h=>by rw[å];exact wm (mI n λj hj=>h j (by lia)) (h n (by lia))
def ip(n:Nat)(r z:Nat->Int):Int:=å n λj=>r j*z j
def QG(n:Nat)(c d:Int)(r s z:Nat->Int):ip n (λj=>c*r j+d*s j) z=c*ip n r z+d*ip n s z:=by unfold ip;rw[<-fL];exact bP n λj _=>by grind
def Hy{n:Nat}{r s z:Nat->Int}(h:∀j,j<n->(97:Int) ∣ r j-s j):(97:Int) ∣ ip n r z-ip n s z:=by
 have e:ip n r z-ip n s z=å n λj=>(r j-s j)*z j:=by have:=fL 1 (-1) (λj=>r j*z j) (λj=>s j*z j) n;unfold ip;rw[show å n (λj=>(r j-s j)*z j)=å n (λj=>1*(r j*z j)+-1*(s j*z j))from bP n λj _=>by grind,this];lia
 rw[e];exact mI n λj hj=>jt (h j hj) (Dl _ _)
abbrev qq:=Nat->Nat->Int
def uJ(m n:Nat)(a:qq)(z:Nat->Int):Prop:=∀i,i<m->(97:Int) ∣ ip n (a i) z
def Hz(n:Nat)(a:qq):Prop:=∀z,uJ n n a z->∀j,j<n->(97:Int) ∣ z j
def uJ.congr{m n:Nat}{a b:qq}{z:Nat->Int}(h:∀i j,i<m->j<n->(97:Int) ∣ a i j-b i j)(k:uJ m n a z):uJ m n b z:=λi hi=>by
 have h1:=k i hi;have h2:=Hy (n:=n) (z:=z) λj hj=>h i j hi hj;have:=gU h1 h2
 rwa [show ip n (a i) z-(ip n (a i) z-ip n (b i) z)=ip n (b i) z by lia]at this
def uJ.K6{m n:Nat}{a b:qq}{z:Nat->Int}(h:∀i j,i<m->j<n->(97:Int) ∣ a i j-b i j):uJ m n a z↔uJ m n b z :=
 ⟨λk=>k.congr h,λk=>k.congr λi j hi hj=>by have:=Int.dvd_neg.mpr (h i j hi hj);rwa [show -(a i j-b i j)=b i j-a i j by lia]at this⟩
def Hz.congr{n:Nat}{a b:qq}(h:∀i j,i<n->j<n->(97:Int) ∣ a i j-b i j):Hz n a↔Hz n b:=by
 unfold Hz;constructor
 .intro r z k;exact r z ((uJ.K6 h).mpr k)
 intro r z k;exact r z ((uJ.K6 h).mp k)
def Za:∀n<97,0<n->n ^ 95%97*n%97=1:=by decide
def Wn{a:Int}(h:¬(97:Int) ∣ a):∃b:Int,(97:Int) ∣ a*b-1:=by
 have h1:0<a%97:=by have:a%97≠0:=λe=>h (Int.dvd_of_emod_eq_zero e);lia
 have q:=Za (a%97).toNat (by lia) (by lia);refine⟨(((a%97).toNat ^ 95%97:Nat):Int),?_⟩;generalize(a%97).toNat ^ 95%97=b at q;have e1:((b*(a%97).toNat%97:Nat):Int)=1:=by rw[q];rfl
 have e2:((b:Int)*(a%97))%97=1:=by rw[<-e1];rw[Int.natCast_emod,D0,Df (by lia)];rfl
 have e3:a*(b:Int)%97=1:=by rw[Int.mul_comm,lB,<-e2,lB (b:Int) (a%97),Dd _ (EI _)]
 lia
def ö{a b:Int}(h:(97:Int) ∣ a*b)(ha:¬(97:Int) ∣ a):(97:Int) ∣ b:=by
 obtain⟨c,hc⟩:=Wn ha;have h1:(97:Int) ∣ c*(a*b):=jt h (tR _ _);have h2:(97:Int) ∣ (a*c-1)*b:=jt hc (Dl _ _);have:=gU h1 h2
 rwa [show c*(a*b)-(a*c-1)*b=b by grind]at this
structure Clear(n c:Nat)(t:qq):Prop where
 one:∀i,i<c->t i i=1
 pF:∀i j,i<n->j<c->i≠j->t i j=0
def Clear.start(n:Nat)(t:qq):Clear n 0 t:=⟨λ_ h=>by lia,λ_ _ _ h=>by lia⟩
def swap(t:qq)(p q:Nat):qq:=λi=>if i=p then t q else if i=q then t p else t i
def uJ.swap{m n p q:Nat}{t:qq}{z:Nat->Int}(hp:p<m)(hq:q<m):uJ m n (swap t p q) z↔uJ m n t z:=by
 constructor
 .intro k i hi;by_cases e1:i=p
  .subst e1;have:=k q hq;unfold My.swap at this;by_cases e:q=i
   .subst e;simpa using this
   rw[aK e,aL rfl]at this;exact this
  by_cases e2:i=q
  .subst e2;have:=k p hp;unfold My.swap at this
   rwa [aL rfl]at this
  have:=k i hi;unfold My.swap at this
  rwa [aK e1,aK e2]at this
 intro k i hi;unfold My.swap;split
 .exact k q hq
 split
 .exact k p hp
 exact k i hi
def clear(t:qq)(c:Nat)(f:Int):qq:=λi j=>if i=c then t c j*f%97 else(t i j-t i c*(t c j*f%97))%97
def gz(a:Int):(97:Int) ∣ a%97-a:=by lia
def uJ.clear{m n c:Nat}{t:qq}{f:Int}{z:Nat->Int}(hc:c<m)(hf:(97:Int) ∣ f*t c c-1):uJ m n (clear t c f) z↔uJ m n t z:=by
 have Rq:¬(97:Int) ∣ f:=λh=>by have:=gU (jt h (Dl f (t c c))) hf;rw[show f*t c c-(f*t c c-1)=1 by lia]at this;lia
 have Zb:uJ m n (My.clear t c f) z↔uJ m n (λi j=>if i=c then f*t c j+0*t c j else 1*t i j+(- (t i c*f))*t c j) z:=by
  refine uJ.K6 λi j _ _=>?_;unfold My.clear;by_cases e:i=c
  .rw[aL e,aL e];have:=gz (t c j*f)
   rwa [show t c j*f%97-(f*t c j+0*t c j)=t c j*f%97-t c j*f by grind]
  rw[aK e,aK e];have h1:=gz (t i j-t i c*(t c j*f%97));have h2:(97:Int) ∣ t i c*(t c j*f%97-t c j*f):=jt (gz (t c j*f)) (tR _ _);have:=gU h1 h2
  rwa [show(t i j-t i c*(t c j*f%97))%97-(t i j-t i c*(t c j*f%97))-t i c*(t c j*f%97-t c j*f)=(t i j-t i c*(t c j*f%97))%97-(1*t i j+-(t i c*f)*t c j) by grind]at this
 rw[Zb];have e1:ip n (λj=>f*t c j+0*t c j) z=f*ip n (t c) z:=by rw[QG];lia
 have e2:∀i,ip n (λj=>1*t i j+(- (t i c*f))*t c j) z=ip n (t i) z-t i c*f*ip n (t c) z:=λi=>by rw[QG];grind
 constructor
 .intro k;have kc:(97:Int) ∣ ip n (t c) z:=by have:=k c hc;simp only[iE]at this;rw[e1]at this;exact ö this Rq
  intro i hi;by_cases e:i=c
  .subst e;exact kc
  have:=k i hi;simp only[aK e]at this;rw[e2]at this;have h2:(97:Int) ∣ t i c*f*ip n (t c) z:=jt kc (tR _ _);have:=wm this h2
  rwa [show ip n (t i) z-t i c*f*ip n (t c) z+t i c*f*ip n (t c) z=ip n (t i) z by lia]at this
 intro k i hi;by_cases e:i=c
 .simp only[aL e];rw[e1];exact jt (k c hc) (tR _ _)
 simp only[aK e];rw[e2];exact gU (k i hi) (jt (k c hc) (tR _ _))
def Clear.swap{n c q:Nat}{t:qq}(h:Clear n c t)(hq:c<=q)(hn:q<n):Clear n c (swap t c q):=by
 refine⟨λi hi=>?_,λi j hi hj ne=>?_⟩
 .unfold My.swap;rw[aK (by lia),aK (by lia)];exact h.one i hi
 unfold My.swap;split
 .exact h.pF q j hn hj (by lia)
 split
 .exact h.pF c j (by lia) hj (by lia)
 exact h.pF i j hi hj ne
def Clear.clear{n c:Nat}{t:qq}{f:Int}(h:Clear n c t)(hc:c<n)(hf:(97:Int) ∣ f*t c c-1):Clear n (c+1) (clear t c f):=by
 have Rm:t c c*f%97=1:=by rw[Int.mul_comm];omega
 have hz:∀j,j<c->t c j*f%97=0:=λj hj=>by rw[h.pF c j hc hj (by omega)];simp
 refine⟨λi hi=>?_,λi j hi hj ne=>?_⟩
 .unfold My.clear;by_cases e:i=c
  .subst e;rw[aL rfl,Rm]
  rw[aK e,hz i (by omega),h.one i (by omega)];omega
 unfold My.clear;by_cases e:i=c
 .rw[aL e,hz j (by omega)]
 rw[aK e];by_cases e2:j=c
 .subst e2;rw[Rm];simp
 rw[hz j (by omega),h.pF i j hi (by omega) ne];simp
def Clear.full{n:Nat}{t:qq}(h:Clear n n t)(z:Nat->Int)(i:Nat)(hi:i<n):ip (n+1) (t i) z=z i+t i n*z n:=by unfold ip;rw[xM i n (n+1) hi (by lia) λj hj n1 n2=>by rw[h.pF i j hi (by lia) (bS n1)];lia,h.one i hi];lia
def Clear.stuck{n c:Nat}{t:qq}(h:Clear n c t)(hc:c<n)(hz:∀i,c<=i->i<n->t i c=0):
  ∃z:Nat->Int,uJ n (n+1) t z/\z c=1/\z n=0:=by
 refine⟨λj=>if j<c then-t j c else if j=c then 1 else 0,λi hi=>?_,by simp,by simp;lia⟩;have:ip (n+1) (t i) (λj=>if j<c then-t j c else if j=c then 1 else 0)=0:=by
  unfold ip;by_cases l:i<c
  .rw[xM i c (n+1) l (by lia) λj hj n1 n2=>?_]
   .simp[l,h.one i l];lia
   by_cases l2:j<c
   .rw[h.pF i j hi l2 (bS n1)];simp
   simp[l2,n2]
  refine uI _ λj hj=>?_;by_cases l2:j<c
  .rw[h.pF i j hi l2 (by lia)];simp
  by_cases e:j=c
  .subst e;rw[hz i (by lia) hi];simp
  simp[l2,e]
 rw[this];exact⟨0,by simp⟩
def K7:∀(n:Nat)(al:Nat->Int)(x:Nat->Int),(∀i,i<n->¬(97:Int) ∣ al i)->(∀i j,i<n->j<n->i≠j->¬(97:Int) ∣ al i-al j) ->
  (∀j,j<n->(97:Int) ∣ å n λi=>al i ^ (j+1)*x i)->∀i,i<n->(97:Int) ∣ x i
 |0,_,_,_,_,_,i,hi=>by lia
 |n+1,al,x,h0,hd,hk,i,hi=>by
  have hy:∀i,i<n->(97:Int) ∣ (al i-al n)*x i:=by
   refine K7 n al (λi=>(al i-al n)*x i) (λi hi=>h0 i (by lia)) (λi j hi hj=>hd i j (by lia) (by lia)) λj hj=>?_;have h1:=hk (j+1) (by lia);have h2:(97:Int) ∣ al n*å (n+1) λi=>al i ^ (j+1)*x i:=jt (hk j (by lia)) (tR _ _);have h3:=gU h1 h2;have e:(å (n+1) λi=>al i ^ (j+1+1)*x i)-al n*(å (n+1) λi=>al i ^ (j+1)*x i)=å n λi=>al i ^ (j+1)*((al i-al n)*x i):=by
    rw[å,å];have:=fL 1 (- al n) (λi=>al i ^ (j+1+1)*x i) (λi=>al i ^ (j+1)*x i) n;rw[show(å n λi=>al i ^ (j+1)*((al i-al n)*x i))=å n (λi=>1*(al i ^ (j+1+1)*x i)+- al n*(al i ^ (j+1)*x i))from bP n λi _=>by rw[eW (al i) (j+1)];grind,this,eW (al n) (j+1)]
    grind
   rwa [e]at h3
  have hx:∀i,i<n->(97:Int) ∣ x i:=λi hi=>ö (hy i hi) (hd i n (by lia) (by lia) (by lia));by_cases e:i=n
  .subst e;have h1:=hk 0 (by lia);rw[å]at h1;have h2:(97:Int) ∣ å i λk=>al k ^ (0+1)*x k:=mI i λk hk=>jt (hx k hk) (tR _ _);have h3:=gU h1 h2;rw[show(å i λk=>al k ^ (0+1)*x k)+al i ^ (0+1)*x i-(å i λk=>al k ^ (0+1)*x k)=al i*x i by rw[eW];grind]at h3;exact ö h3 (h0 i (by lia))
  exact hx i (by lia)
end My
namespace My
def T(x:Int)(n:Nat)(f:Nat->Int):Int:=å n (λi=>f i*x ^ i)%97
def aCx(x:Int)(n:Nat)(f:Nat->Int):0<=T x n f:=gn _ (by decide)
def aCy(x:Int)(n:Nat)(f:Nat->Int):T x n f<97:=gQ _ (by decide)
def TR{x:Int}{n:Nat}{f g:Nat->Int}(h:∀i,i<n->f i=g i):T x n f=T x n g:=by unfold T;rw[bP n λj hj=>by rw[h j hj]]
def E5{x:Int}{n:Nat}{f:Nat->Int}:T x n f=0↔(97:Int) ∣ å n (λi=>f i*x ^ i):=by unfold T;lia
def St(j:Nat):Int:=([5,25,28,43,21,8]:List Int).getD j 0
def aCz:∀j:Nat,j<6->P 5 (1+(j:Int))=St j:=by decide
def hv(f:Nat->Int)(n:Nat)(x:Int):Nat->Int
 |0=>0
 |i+1=>(hv f n x i*x+f (n-1-i))%97
def VB(f:Nat->Int)(n:Nat)(x:Int)(i:Nat):0<=hv f n x i:=by
 cases i with
 |zero=>exact lC _
 |succ i=>exact gn _ (by decide)
def VC(f:Nat->Int)(n:Nat)(x:Int)(i:Nat):hv f n x i<97:=by
 cases i with
 |zero=>exact(by decide:(0:Int)<97)
 |succ i=>exact gQ _ (by decide)
def QH(f:Nat->Int)(n:Nat)(x:Int):∀i,i<=n->(97:Int) ∣ hv f n x i-å i (λk=>f (n-i+k)*x ^ k)
 |0,_=>by simp[hv,å]
 |i+1,h=>by
  obtain⟨a,ha⟩:=QH f n x i (by lia);have e:å (i+1) (λk=>f (n-(i+1)+k)*x ^ k)=f (n-1-i)+x*å i (λk=>f (n-i+k)*x ^ k):=by
   rw[Ax,<-xK];have e1:f (n-(i+1)+0)*x ^ 0=f (n-1-i):=by rw[show n-(i+1)+0=n-1-i by lia];simp
   rw[e1]
   congr 1
   refine bP i λj hj=>?_;rw[show n-(i+1)+(j+1)=n-i+j by lia,eW]
   grind
  rw[e,hv];generalize å i (λk=>f (n-i+k)*x ^ k)=S at ha;have hq:hv f n x i=S+97*a:=by lia
  rw[hq,EG];exact⟨a*x-((S+97*a)*x+f (n-1-i))/97,by grind⟩
def aC0(f:Nat->Int)(n:Nat)(x:Int):hv f n x n=T x n f:=by have h:=QH f n x n (ae n);rw[bP n (g:=λk=>f k*x ^ k) λj hj=>by rw[show n-n+j=j by omega]]at h;have h0:=VB f n x n;have h1:=VC f n x n;unfold T;omega
def Dv(k:Nat):Int:=([21,80,53,2,55,63]:List Int).getD k 0
def rs(f:Nat->Int):Nat->Nat->Int
 |0,_=>0
 |m+1,k=>((if k<5 then rs f m (k+1)else 0)-(rs f m 0+f m)*Dv k)%97
def Zc(f:Nat->Int)(m k:Nat):0<=rs f m k:=by
 cases m with
 |zero=>exact lC _
 |succ m=>exact gn _ (by decide)
def Zd(f:Nat->Int)(m k:Nat):rs f m k<97:=by
 cases m with
 |zero=>exact(by decide:(0:Int)<97)
 |succ m=>exact gQ _ (by decide)
def ì(y:Int)(r:Nat->Int):Int:=r 0+r 1*y+r 2*(y*y)+r 3*(y*y*y)+r 4*(y*y*y*y)+r 5*(y*y*y*y*y)
def QI:∀j<6,(97:Int) ∣ 1+St j*ì (St j) Dv:=by decide
def TU{y pm S fm a b:Int}{r:Nat->Int}(ha:pm*ì y r-S=97*a)(hb:1+y*ì y Dv=97*b):
  (97:Int) ∣ pm*y*ì y (λk=>((if k<5 then r (k+1)else 0)-(r 0+fm)*Dv k)%97)-(S+fm*pm):=by
 simp only[ì]at *;simp only[show(0:Nat)<5 by decide,show(1:Nat)<5 by decide,show(2:Nat)<5 by decide,show(3:Nat)<5 by decide,show(4:Nat)<5 by decide,show ¬(5:Nat)<5 by decide,iE,cm,EG];generalize(r (0+1)-(r 0+fm)*Dv 0)/97=q0;generalize(r (1+1)-(r 0+fm)*Dv 1)/97=q1;generalize(r (2+1)-(r 0+fm)*Dv 2)/97=q2;generalize(r (3+1)-(r 0+fm)*Dv 3)/97=q3;generalize(r (4+1)-(r 0+fm)*Dv 4)/97=q4;generalize((0:Int)-(r 0+fm)*Dv 5)/97=q5;generalize r 0=r0 at *;generalize r (0+1)=r1 at *;generalize r (1+1)=r2 at *;generalize r (2+1)=r3 at *;generalize r (3+1)=r4 at *;generalize r (4+1)=r5 at *;generalize Dv 0=d0 at *;generalize Dv 1=d1 at *;generalize Dv 2=d2 at *;generalize Dv 3=d3 at *;generalize Dv 4=d4 at *;generalize Dv 5=d5 at *;have e:pm*y*(r1-(r0+fm)*d0-97*q0+(r2-(r0+fm)*d1-97*q1)*y+(r3-(r0+fm)*d2-97*q2)*(y*y)+(r4-(r0+fm)*d3-97*q3)*(y*y*y)+(r5-(r0+fm)*d4-97*q4)*(y*y*y*y)+(0-(r0+fm)*d5-97*q5)*(y*y*y*y*y))-(S+fm*pm)
   = (pm*(r0+r1*y+r2*(y*y)+r3*(y*y*y)+r4*(y*y*y*y)+r5*(y*y*y*y*y))-S)-pm*(r0+fm)*(1+y*(d0+d1*y+d2*(y*y)+d3*(y*y*y)+d4*(y*y*y*y)+d5*(y*y*y*y*y)))-97*(pm*(q0*y+q1*(y*y)+q2*(y*y*y)+q3*(y*y*y*y)+q4*(y*y*y*y*y)+q5*(y*y*y*y*y*y))):=by grind
 rw[e,ha,hb];exact⟨a-pm*(r0+fm)*b-pm*(q0*y+q1*(y*y)+q2*(y*y*y)+q3*(y*y*y*y)+q4*(y*y*y*y*y)+q5*(y*y*y*y*y*y)),by grind⟩
def QJ{y:Int}(hy:(97:Int) ∣ 1+y*ì y Dv)(f:Nat->Int):∀m,(97:Int) ∣ y ^ m*ì y (rs f m)-å m (λi=>f i*y ^ i)
 |0=>by simp[ì,rs,å]
 |m+1=>by obtain⟨a,ha⟩:=QJ hy f m;obtain⟨b,hb⟩:=hy;rw[å,eW];exact TU ha hb
def iB(f:Nat->Int)(i:Nat):Int:=if i<18 then f i else -(rs f 18 (i-18))%97
def TV{f:Nat->Int}(h:∀i,i<18->0<=f i/\f i<97)(i:Nat):0<=iB f i/\iB f i<97:=by
 unfold iB;split
 .rename_i h1;exact h i h1
 exact⟨gn _ (by decide),gQ _ (by decide)⟩
def DE(f:Nat->Int)(n:Nat):∀m,å (n+m) f=å n f+å m (λi=>f (n+i))
 |0=>by simp[å]
 |m+1=>by rw[<-zw,å,DE f n m,å];lia
def TY(y:Int)(r:Nat->Int):å 6 (λk=>r k*y ^ k)=ì y r:=by
 simp only[å,ì,eW,EF]
 grind
def TZ{y:Int}(hy:(97:Int) ∣ 1+y*ì y Dv)(f:Nat->Int):T y 24 (iB f)=0:=by
 rw[E5,show(24:Nat)=18+6 from rfl,DE];have e1:å 18 (λi=>iB f i*y ^ i)=å 18 (λi=>f i*y ^ i):=bP 18 λj hj=>by rw[iB,aL hj]
 have e2:å 6 (λi=>iB f (18+i)*y ^ (18+i))=y ^ 18*ì y (λk=>-(rs f 18 k)%97):=by
  rw[<-TY,<-xK];refine bP 6 λj hj=>?_;rw[iB,aK (by lia),Int.pow_add,show 18+j-18=j by lia]
  grind
 rw[e1,e2];obtain⟨a,ha⟩:=QJ hy f 18;generalize å 18 (λi=>f i*y ^ i)=S at *;generalize y ^ 18=pm at *;generalize rs f 18=r at *;simp only[ì,EG]at *;generalize(-(r 0))/97=q0;generalize(-(r 1))/97=q1;generalize(-(r 2))/97=q2;generalize(-(r 3))/97=q3;generalize(-(r 4))/97=q4;generalize(-(r 5))/97=q5;refine⟨-a-pm*(q0+q1*y+q2*(y*y)+q3*(y*y*y)+q4*(y*y*y*y)+q5*(y*y*y*y*y)),?_⟩
 grind
def dZ(f:Nat->Int):Prop:=∀j,j<6->T (St j) 24 f=0
def E6(f:Nat->Int):dZ (iB f):=λj hj=>TZ (QI j hj) f
def g8{y:Int}(h:¬(97:Int) ∣ y):∀n:Nat,¬(97:Int) ∣ y ^ n
 |0=>by rw[EF];decide
 |n+1=>λz=>by rw[eW]at z;exact h (ö z (g8 h n))
end My
namespace My
def gh(n:Nat)(f g:Nat->Int):List Nat:=(List.range n).filter λi=>!decide (f i=g i)
def OF(n:Nat)(f g:Nat->Int):gh (n+1) f g=if f n=g n then gh n f g else gh n f g++[n]:=by unfold gh;rw[Dy,Dh];by_cases h:f n=g n<;>simp[h]
def fu{n:Nat}{f g:Nat->Int}{i:Nat}:i∈gh n f g↔i<n/\f i≠g i:=by unfold gh;simp
def nH(n:Nat)(f g:Nat->Int):(gh n f g).Nodup:=Dc _ List.nodup_range
def ë(l:List Nat)(h:Nat->Int):Int:=å l.length λk=>h (l.getD k 0)
def lsum_snoc(l:List Nat)(n:Nat)(h:Nat->Int):ë (l++[n]) h=ë l h+h n:=by
 unfold ë;rw[bV,Jk,å]
 congr 1
 .refine bP _ λj hj=>?_;simp[List.getD,wO hj]
 simp[List.getD]
def QK(n:Nat)(f g:Nat->Int)(h:Nat->Int)(hz:∀i,i<n->f i=g i->h i=0):å n h=ë (gh n f g) h:=by
 induction n with
 |zero=>rfl
 |succ n ih =>
  rw[å,ih λi hi=>hz i (by lia),OF];by_cases e:f n=g n
  .rw[aL e,hz n (by lia) e];lia
  rw[aK e,lsum_snoc]
def Wo:∀j:Nat,j<6->St j=5 ^ (j+1)%97:=by decide
def ji:¬(97:Int) ∣ 5:=by decide
def Ay:∀p:Nat,p<24->∀q:Nat,q<24->p≠q->¬(97:Int) ∣ 5 ^ p-5 ^ q:=by decide +kernel
def Mi{a b:Int}(h:(97:Int) ∣ a-b):∀n:Nat,(97:Int) ∣ a ^ n-b ^ n
 |0=>by simp
 |n+1=>by
  obtain⟨c,hc⟩:=h;obtain⟨d,hd⟩:=Mi ⟨c,hc⟩ n;rw[eW,eW];exact⟨d*a+b ^ n*c,by have e:a ^ n*a-b ^ n*b=(a ^ n-b ^ n)*a+b ^ n*(a-b):=(by grind);rw[e,hd,hc];grind⟩
def vS{j p:Nat}(hj:j<6):(97:Int) ∣ St j ^ p-(5 ^ p) ^ (j+1):=by
 have h:(97:Int) ∣ St j-5 ^ (j+1):=by rw[Wo j hj];exact gz _
 have:=Mi h p
 rwa [<-wj,Nat.mul_comm,wj]at this
def QL{l:List Nat}{z:Nat->Int}(hn:l.Nodup)(hb:∀p∈l,p<24)(hl:l.length<=6)(hs:∀j,j<l.length->(97:Int) ∣ ë l λp=>z p*St j ^ p):∀p∈l,(97:Int) ∣ z p:=by
 intro p hp;obtain⟨k,hk,rfl⟩:=eU hp;have e:∀k,(h:k<l.length)->l.getD k 0=l[k]:=λk h=>by simp[List.getD,h]
 rw[<-e k hk];refine K7 l.length (λk=>5 ^ l.getD k 0) (λk=>z (l.getD k 0)) (λi _=>g8 ji _) (λi j hi hj yg=>?_) (λj hj=>?_) k hk
 .refine Ay _ (hb _ (by rw[e i hi];exact jJ _)) _ (hb _ (by rw[e j hj];exact jJ _)) λq=>yg ?_;rw[e i hi,e j hj]at q;exact(oM hn).mp q
 have h1:=hs j hj;unfold ë at h1;have h2:(97:Int) ∣ (å l.length λk=>(5 ^ l.getD k 0) ^ (j+1)*z (l.getD k 0))-å l.length λk=>z (l.getD k 0)*St j ^ l.getD k 0:=by
  have h3:=fL 1 (-1) (λk=>(5 ^ l.getD k 0) ^ (j+1)*z (l.getD k 0)) (λk=>z (l.getD k 0)*St j ^ l.getD k 0) l.length;have h4:(97:Int) ∣ å l.length λk=>1*((5 ^ l.getD k 0) ^ (j+1)*z (l.getD k 0))+-1*(z (l.getD k 0)*St j ^ l.getD k 0):=mI _ λk _=>by obtain⟨c,hc⟩:=vS (p:=l.getD k 0) (show j<6 by lia);refine⟨-(c*z (l.getD k 0)),?_⟩;generalize St j ^ l.getD k 0=A at *;generalize((5:Int) ^ l.getD k 0) ^ (j+1)=B at *;have:B=A-97*c:=(by lia);rw[this];grind
  rw[h3]at h4;have e5:∀a b:Int,1*a+-1*b=a-b:=λa b=>by lia
  rw[e5]at h4;exact h4
 have h5:=wm h2 h1
 rwa [Int.sub_add_cancel]at h5
def IA{n:Nat}{f g:Nat->Int}(y:Int):å n (λi=>f i*y ^ i)-å n (λi=>g i*y ^ i)=ë (gh n f g) λi=>(f i-g i)*y ^ i:=by
 rw[<-QK n f g _ λi _ e=>by rw[e];grind];have h1:=fL 1 (-1) (λi=>f i*y ^ i) (λi=>g i*y ^ i) n;have h2:å n (λj=>1*(f j*y ^ j)+-1*(g j*y ^ j))=å n λi=>(f i-g i)*y ^ i:=bP n λj _=>by grind
 rw[<-h2,h1];lia
def Ze{f g:Nat->Int}(bf:∀i,i<24->0<=f i/\f i<97)(bg:∀i,i<24->0<=g i/\g i<97)(hf:dZ f)(hg:dZ g)(h:(gh 24 f g).length<=6):∀i,i<24->f i=g i:=by
 intro i hi;apply kU;intro AX;have hm:i∈gh 24 f g:=fu.mpr ⟨hi,AX⟩;have:=QL (z:=λi=>f i-g i) (nH _ _ _) (λp hp=>(fu.mp hp).1) h (λj hj=>by have h1:=E5.mp (hf j (by omega));have h2:=E5.mp (hg j (by omega));rw[<-IA];exact gU h1 h2) i hm
 have b1:=bf i hi;have b2:=bg i hi;omega
def dZ.congr{f g:Nat->Int}(h:∀i,i<24->f i=g i)(hf:dZ f):dZ g:=λj hj=>by rw[<-TR h];exact hf j hj
end My
namespace My
def mK:∀(l L:List Nat),l.Nodup->(∀x∈l,x∈L)->l.length<=L.length
 |[],_,_,_=>bt _
 |a::l,L,hn,hs=>by have ha:=hs a bp;have J4:=ic.mp hn;have:=mK l (L.erase a) J4.2 λx hx=>(List.mem_erase_of_ne (λe=>J4.1 (by rw[<-e];exact hx))).mpr (hs x (bU _ hx));rw[aAm ha]at this;have hp:0<L.length:=List.length_pos_of_mem ha;rw[cQ];lia
def IB(n:Nat)(f g:Nat->Int):(gh n f g).Pairwise (·<·):=Dc _ Jg
def eX{p q:Nat}(hp:p<24)(hq:q<24)(h:p≠q):¬(97:Int) ∣ 5 ^ p-5 ^ q:=Ay p hp q hq h
def M(s:Nat->Int):qq:=λi j=>if j=0 then s (i+1)else -(s i)%97
def Zf(s z:Nat->Int)(i:Nat):(97:Int) ∣ ip 2 (M s i) z-(s (i+1)*z 0-s i*z 1):=by
 have e:ip 2 (M s i) z=s (i+1)*z 0+-(s i)%97*z 1:=by simp[ip,å,M]
 rw[e,EG];exact⟨-((-(s i))/97*z 1),by grind⟩
def K8{s:Nat->Int}(h:¬(97:Int) ∣ s 0*s 2-s 1*s 1):Hz 2 (M s):=λz hz j hj=>by
 have k0:=gU (hz 0 (by decide)) (Zf s z 0);have k1:=gU (hz 1 (by decide)) (Zf s z 1);rw[Dw]at k0 k1;obtain⟨a,ha⟩:=k0;obtain⟨b,hb⟩:=k1
 match j,hj with
 |0,_ =>
  refine ö (a:=s 0*s 2-s 1*s 1) ⟨s 0*b-s 1*a,?_⟩ h;have e:(s 0*s 2-s 1*s 1)*z 0=s 0*(s (1+1)*z 0-s 1*z 1)-s 1*(s (0+1)*z 0-s 0*z 1):=by grind
  rw[e,ha,hb];grind
 |1,_ =>
  refine ö (a:=s 0*s 2-s 1*s 1) ⟨s 1*b-s 2*a,?_⟩ h;have e:(s 0*s 2-s 1*s 1)*z 1=s 1*(s (1+1)*z 0-s 1*z 1)-s 2*(s (0+1)*z 0-s 0*z 1):=by grind
  rw[e,ha,hb];grind
def Ta{s:Nat->Int}{X:Int}(h0:(97:Int) ∣ s 1-s 0*X)(h1:(97:Int) ∣ s 2-s 1*X):¬Hz 2 (M s):=λr=>by
 have:=r (λj=>if j=0 then 1 else X) (λi hi=>by
  have k:=Zf s (λj=>if j=0 then 1 else X) i;have h:(97:Int) ∣ s (i+1)*(if(0:Nat)=0 then 1 else X)-s i*(if(1:Nat)=0 then 1 else X):=by
   match i,hi with
   |0,_=>simpa using h0
   |1,_=>simpa using h1
  have:=wm k h
  rwa [Int.sub_add_cancel]at this) 0 (by decide)
 have h1:(97:Int) ∣ 1:=this;exact absurd h1 (by decide)
def Tb{s:Nat->Int}{e d X Y:Int}(h:∀j,j<4->(97:Int) ∣ s j-(e*X ^ (j+1)+d*Y ^ (j+1))):(97:Int) ∣ (s 0*s 2-s 1*s 1)-e*d*(X*Y)*((X-Y)*(X-Y)):=by
 obtain⟨a,ha⟩:=h 0 (by decide);obtain⟨b,hb⟩:=h 1 (by decide);obtain⟨c,hc⟩:=h 2 (by decide);simp only[eW,EF,Int.one_mul,Nat.zero_add]at ha hb hc;have e0:s 0=e*X+d*Y+97*a:=by lia
 have e1:s 1=e*(X*X)+d*(Y*Y)+97*b:=by lia
 have e2:s 2=e*(X*X*X)+d*(Y*Y*Y)+97*c:=by lia
 rw[e0,e1,e2];exact⟨(e*X+d*Y)*c+a*(e*(X*X*X)+d*(Y*Y*Y))+97*a*c-2*(e*(X*X)+d*(Y*Y))*b-97*b*b,by grind⟩
def QM{s x:Nat->Int}{e d X Y:Int}(r:Hz 2 (M s))(h:∀j,j<4->(97:Int) ∣ s j-(e*X ^ (j+1)+d*Y ^ (j+1)))(hx:∀i,i<2->(97:Int) ∣ ip 2 (M s i) x-s (i+2)):
  (97:Int) ∣ x 0-(X+Y)/\(97:Int) ∣ x 1-X*Y:=by
 have k:uJ 2 2 (M s) λj=>if j=0 then x 0-(X+Y)else x 1-X*Y:=λi hi=>by
  have k1:=Zf s (λj=>if j=0 then x 0-(X+Y)else x 1-X*Y) i;have k2:=gU (hx i hi) (Zf s x i);have k3:(97:Int) ∣ s (i+2)-(s (i+1)*(X+Y)-s i*(X*Y)):=by obtain⟨a,ha⟩:=h i (by lia);obtain⟨b,hb⟩:=h (i+1) (by lia);obtain⟨c,hc⟩:=h (i+2) (by lia);rw[eW X (i+2),eW X (i+1),eW Y (i+2),eW Y (i+1)]at hc;rw[eW X (i+1),eW Y (i+1)]at hb;generalize X ^ (i+1)=A at *;generalize Y ^ (i+1)=B at *;have e0:s i=e*A+d*B+97*a:=(by lia);have e1:s (i+1)=e*(A*X)+d*(B*Y)+97*b:=(by lia);have e2:s (i+2)=e*(A*X*X)+d*(B*Y*Y)+97*c:=(by lia);rw[e0,e1,e2];exact⟨c-b*(X+Y)+a*(X*Y),by grind⟩
  have e1:(if(0:Nat)=0 then x 0-(X+Y)else x 1-X*Y)=x 0-(X+Y):=rfl;have e2:(if(1:Nat)=0 then x 0-(X+Y)else x 1-X*Y)=x 1-X*Y:=rfl;rw[e1,e2]at k1;generalize ip 2 (M s i) (λj=>if j=0 then x 0-(X+Y)else x 1-X*Y)=I at *;generalize ip 2 (M s i) x=J at *;obtain⟨a,ha⟩:=k1;obtain⟨b,hb⟩:=k2;obtain⟨c,hc⟩:=k3;refine⟨a+b+c,?_⟩;have:I=97*a+(s (i+1)*(x 0-(X+Y))-s i*(x 1-X*Y)):=by lia
  have e3:s (i+1)*(x 0-(X+Y))-s i*(x 1-X*Y)=(s (i+1)*x 0-s i*x 1)-(s (i+1)*(X+Y)-s i*(X*Y)):=by grind
  lia
 exact⟨r _ k 0 (by decide),r _ k 1 (by decide)⟩
def Mj(t u:Int)(k:Nat):Bool:=decide ((P 5 k*P 5 k-t*P 5 k+u)%97=0)
def ç(t u:Int):List Nat:=(List.range 24).filter (Mj t u)
def P5(k:Nat):(97:Int) ∣ P 5 k-5 ^ k:=by unfold P;rw[dh];exact gz _
def QN{t u X Y:Int}{k:Nat}(ht:(97:Int) ∣ t-(X+Y))(hu:(97:Int) ∣ u-X*Y):Mj t u k=true↔(97:Int) ∣ (5 ^ k-X)*(5 ^ k-Y):=by
 obtain⟨a,ha⟩:=ht;obtain⟨b,hb⟩:=hu;obtain⟨c,hc⟩:=P5 k;unfold Mj;rw[uo];generalize(5:Int) ^ k=V at *;have e0:t=X+Y+97*a:=by omega
 have e1:u=X*Y+97*b:=by omega
 have e2:P 5 k=V+97*c:=by omega
 have e3:P 5 k*P 5 k-t*P 5 k+u=(V-X)*(V-Y)+97*(2*V*c+97*c*c-(X+Y)*c-a*(V+97*c)+b):=by rw[e0,e1,e2];grind
 rw[e3];generalize(V-X)*(V-Y)=W;omega
def OG(t u:Int):(ç t u).length<=2:=by
 apply kU;intro h;have hl:2<(ç t u).length:=by lia
 have nd:(ç t u).Nodup:=Dc _ List.nodup_range;have at_:∀(i:Nat)(hi:i<(ç t u).length),(ç t u)[i]<24/\(97:Int) ∣ 5 ^ (ç t u)[i]*5 ^ (ç t u)[i]-t*5 ^ (ç t u)[i]+u:=λi hi=>by
  have hm:(ç t u)[i]∈ç t u:=jJ _;generalize(ç t u)[i]=k at hm;unfold ç at hm;rw[tW,jL]at hm;refine⟨hm.1,?_⟩;have h2:=tM hm.2;obtain⟨c,hc⟩:=P5 k;generalize(5:Int) ^ k=V at *;have e2:P 5 k=V+97*c:=by lia
  have e3:P 5 k*P 5 k-t*P 5 k+u=V*V-t*V+u+97*(2*V*c+97*c*c-t*c):=by rw[e2];grind
  lia
 obtain⟨a0,a1⟩:=at_ 0 (by lia);obtain⟨b0,b1⟩:=at_ 1 (by lia);obtain⟨c0,c1⟩:=at_ 2 (by lia);have n01:(ç t u)[0]≠(ç t u)[1]:=λe=>absurd ((oM nd).mp e) (by decide);have n02:(ç t u)[0]≠(ç t u)[2]:=λe=>absurd ((oM nd).mp e) (by decide);have n12:(ç t u)[1]≠(ç t u)[2]:=λe=>absurd ((oM nd).mp e) (by decide);have f01:=eX a0 b0 n01;have f02:=eX a0 c0 n02;have f12:=eX b0 c0 n12;generalize(5:Int) ^ (ç t u)[0]=A at *;generalize(5:Int) ^ (ç t u)[1]=B at *;generalize(5:Int) ^ (ç t u)[2]=C at *;have k1:(97:Int) ∣ (A-B)*(A+B-t):=by
  have:=gU a1 b1
  rwa [show A*A-t*A+u-(B*B-t*B+u)=(A-B)*(A+B-t) by grind]at this
 have k2:(97:Int) ∣ (A-C)*(A+C-t):=by
  have:=gU a1 c1
  rwa [show A*A-t*A+u-(C*C-t*C+u)=(A-C)*(A+C-t) by grind]at this
 have k3:=ö k1 f01;have k4:=ö k2 f02;have:=gU k3 k4;rw[show A+B-t-(A+C-t)=B-C by lia]at this;exact f12 this
def K9:∀p:Nat,p<24->∀q:Nat,q<24->p<q->(List.range 24).filter (λk=>decide (k=p\/k=q))=[p,q]:=by decide +kernel
structure QO(s:Nat->Int)(ps:List Nat):Prop where
 nd:ps.Nodup
 b:∀p∈ps,p<24
 wM:ps.length<=2
 one:∀(e:Int)(p:Nat),p<24->¬(97:Int) ∣ e->(∀j,j<4->(97:Int) ∣ s j-e*(5 ^ p) ^ (j+1))->ps=[p]
 two:∀(e d:Int)(p q:Nat),p<q->q<24->¬(97:Int) ∣ e->¬(97:Int) ∣ d->(∀j,j<4->(97:Int) ∣ s j-(e*(5 ^ p) ^ (j+1)+d*(5 ^ q) ^ (j+1)))->ps=[p,q]
def LA{s:Nat->Int}{e X:Int}(h:∀j,j<4->(97:Int) ∣ s j-e*X ^ (j+1))(j:Nat)(hj:j<3):(97:Int) ∣ s (j+1)-s j*X:=by
 obtain⟨a,ha⟩:=h j (by lia);obtain⟨b,hb⟩:=h (j+1) (by lia);rw[eW X (j+1)]at hb;generalize X ^ (j+1)=A at *;have e0:s j=e*A+97*a:=by lia
 have e1:s (j+1)=e*(A*X)+97*b:=by lia
 rw[e0,e1];exact⟨b-a*X,by grind⟩
def iu{a b:Int}(ha:¬(97:Int) ∣ a)(hb:¬(97:Int) ∣ b):¬(97:Int) ∣ a*b:=λz=>hb (ö z ha)
def Tc{s:Nat->Int}{e d:Int}{p q:Nat}(TQ:p<q)(hq:q<24)(he:¬(97:Int) ∣ e)(hd:¬(97:Int) ∣ d)(h:∀j,j<4->(97:Int) ∣ s j-(e*(5 ^ p) ^ (j+1)+d*(5 ^ q) ^ (j+1))):Hz 2 (M s):=by refine K8 λz=>?_;have k:=gU z (Tb h);rw[Dw]at k;have f:=eX (by lia:p<24) hq (by lia);exact iu (iu (iu he hd) (iu (g8 ji p) (g8 ji q))) (iu f f) k
def QP{s x:Nat->Int}(r:Hz 2 (M s))(hx:∀i,i<2->(97:Int) ∣ ip 2 (M s i) x-s (i+2)):QO s (ç (x 0) (x 1))where
 nd:=Dc _ List.nodup_range
 b:=λp hp=>jL.mp (tW.mp hp).1
 wM:=OG _ _
 one:=λe p hp he h=>absurd r (Ta (X:=5 ^ p) (LA h 0 (by decide)) (LA h 1 (by decide)))
 two:=λe d p q TQ hq he hd h=>by
  obtain⟨ht,hu⟩:=QM r h hx;rw[<-K9 p (by lia) q hq TQ];unfold ç;apply List.filter_congr;intro k hk;have hk':=jL.mp hk;rw[jq,QN ht hu,uo];constructor
  .intro z;apply kU;intro n;exact iu (eX hk' (by lia) λe=>n (.inl e)) (eX hk' hq λe=>n (.inr e)) z
  rintro(e|e)
  .rw[e,Int.sub_self,Int.zero_mul];exact EH _
  rw[e,Int.sub_self,Int.mul_zero];exact EH _
def pG(s:Nat->Int):List Nat:=if s 0=0\/s 1=0 then[]else if ex (s 1*P (s 0) 95%97)<24 then[(ex (s 1*P (s 0) 95%97)).toNat]else[]
def Wp:∀p:Nat,p<24->ex ((5:Int) ^ p%97)=p:=by decide +kernel
def Td{s:Nat->Int}(bs:∀j,j<4->0<=s j/\s j<97)(r:¬Hz 2 (M s)):QO s (pG s)where
 nd:=by
  unfold pG;split
  .exact zp
  split<;>simp
 b:=λp hp=>by
  unfold pG at hp;split at hp
  .cases hp
  split at hp
  .have:=bX.mp hp;rename_i h;have:=QF (s 1*P (s 0) 95%97);lia
  cases hp
 wM:=by
  unfold pG;split
  .exact bt _
  split<;>simp
 one:=λe p hp he h=>by
  have b0:=bs 0 (by decide);have b1:=bs 1 (by decide);have u0:¬(97:Int) ∣ s 0:=λz=>by have:=gU z (h 0 (by decide));rw[Dw]at this;exact iu he (g8 (g8 ji p) _) this
  have u1:¬(97:Int) ∣ s 1:=λz=>by have:=gU z (h 1 (by decide));rw[Dw]at this;exact iu he (g8 (g8 ji p) _) this
  have n0:s 0≠0:=λz=>u0 (by rw[z];exact EH _);have n1:s 1≠0:=λz=>u1 (by rw[z];exact EH _);have hv:s 1*P (s 0) 95%97=5 ^ p%97:=by
   have k:=LA h 0 (by decide);have i:=VA (a:=s 0) (by lia) b0.2;obtain⟨c,hc⟩:=k;have e1:s 1=s 0*5 ^ p+97*c:=by have:s (0+1)=s 1:=rfl;lia
   have e2:P (s 0) 95*s 0=1+97*(P (s 0) 95*s 0/97):=(by lia);generalize P (s 0) 95*s 0/97=m at e2;generalize(5:Int) ^ p=V at *;have e3:s 1*P (s 0) 95=V+97*(m*V+c*P (s 0) 95):=by rw[e1];have:(s 0*V+97*c)*P (s 0) 95=(P (s 0) 95*s 0)*V+97*(c*P (s 0) 95):=(by grind);rw[this,e2];grind
   lia
  unfold pG;rw[aK (by lia),hv,Wp p hp,aL (by lia),dh]
 two:=λe d p q TQ hq he hd h=>absurd (Tc TQ hq he hd h) r
structure Az(f g:Nat->Int):Prop where
 b:∀i,i<24->0<=g i/\g i<97
 sealed:dZ g
 wM:(gh 24 f g).length<=2
def DF{f g:Nat->Int}(h:Az f g){j:Nat}(hj:j<6):(97:Int) ∣ T (St j) 24 f-ë (gh 24 f g) λi=>(f i-g i)*St j ^ i:=by rw[<-IA];have h1:=E5.mp (h.sealed j hj);unfold T;omega
def IC{f g:Nat->Int}{ps:List Nat}(bf:∀i,i<24->0<=f i/\f i<97)(h:Az f g)(hn:¬dZ f)(hp:QO (λj=>T (St j) 24 f) ps):ps=gh 24 f g:=by
 have hs:=λ(j:Nat)(hj:j<4)=>DF h (show j<6 by omega);have hm:∀i,i∈gh 24 f g->i<24/\¬(97:Int) ∣ f i-g i:=λi hi=>by obtain⟨h1,h2⟩:=fu.mp hi;have:=bf i h1;have:=h.b i h1;exact⟨h1,by omega⟩
 have so:=IB 24 f g;have wM:=h.wM
 match hl:gh 24 f g with
 |[] =>
  exfalso;refine hn (h.sealed.congr λi hi=>?_);apply kU;intro z;have:=fu.mpr ⟨hi,λe=>z e.symm⟩;rw[hl]at this;cases this
 |[p] =>
  rw[hl]at hs hm;obtain⟨p0,p1⟩:=hm p (by simp);refine hp.one (f p-g p) p p0 p1 λj hj=>?_;have k:=hs j hj;have e:ë [p] (λi=>(f i-g i)*St j ^ i)=(f p-g p)*St j ^ p:=by simp[ë,å]
  rw[e]at k;obtain⟨c,hc⟩:=vS (p:=p) (show j<6 by omega);obtain⟨a,ha⟩:=k;generalize St j ^ p=A at *;generalize((5:Int) ^ p) ^ (j+1)=B at *;have e2:A=B+97*c:=by omega
  rw[e2]at ha;exact⟨a+(f p-g p)*c,by have:(f p-g p)*(B+97*c)=(f p-g p)*B+97*((f p-g p)*c):=(by grind);omega⟩
 |[p,q] =>
  rw[hl]at hs hm so;obtain⟨p0,p1⟩:=hm p (by simp);obtain⟨q0,q1⟩:=hm q (by simp);have TQ:p<q:=by simpa using so
  refine hp.two (f p-g p) (f q-g q) p q TQ q0 p1 q1 λj hj=>?_;have k:=hs j hj;have e:ë [p,q] (λi=>(f i-g i)*St j ^ i)=(f p-g p)*St j ^ p+(f q-g q)*St j ^ q:=by simp[ë,å]
  rw[e]at k;obtain⟨c,hc⟩:=vS (p:=p) (show j<6 by omega);obtain⟨d,hd⟩:=vS (p:=q) (show j<6 by omega);obtain⟨a,ha⟩:=k;generalize St j ^ p=A at *;generalize((5:Int) ^ p) ^ (j+1)=B at *;generalize St j ^ q=C at *;generalize((5:Int) ^ q) ^ (j+1)=D at *;have e2:A=B+97*c:=by omega
  have e3:C=D+97*d:=by omega
  rw[e2,e3]at ha;exact⟨a+(f p-g p)*c+(f q-g q)*d,by have:(f p-g p)*(B+97*c)=(f p-g p)*B+97*((f p-g p)*c):=(by grind);have:(f q-g q)*(D+97*d)=(f q-g q)*D+97*((f q-g q)*d):=(by grind);omega⟩
 |_::_::_::_=>rw[hl]at wM;simp at wM
def jW(f:Nat->Int)(ps:List Nat)(x:Nat->Int):Nat->Nat->Int
 |0=>f
 |k+1=>λj=>if j=ps.getD k 0 then(jW f ps x k (ps.getD k 0)-x k)%97 else jW f ps x k j
def QQ{f:Nat->Int}(ps:List Nat)(x:Nat->Int)(bf:∀i,i<24->0<=f i/\f i<97):∀k i,i<24->0<=jW f ps x k i/\jW f ps x k i<97
 |0,i,hi=>bf i hi
 |k+1,i,hi=>by
  unfold jW;split
  .exact⟨gn _ (by decide),gQ _ (by decide)⟩
  exact QQ ps x bf k i hi
def E7(f:Nat->Int)(ps:List Nat)(x:Nat->Int):∀k,k<=ps.length->∀i,i∉ps->jW f ps x k i=f i
 |0,_,i,_=>rfl
 |k+1,hk,i,hi=>by unfold jW;rw[aK λe=>hi (by rw[e];simp[List.getD,show k<ps.length by lia]),E7 f ps x k (by lia) i hi]
def getD_get{ps:List Nat}{k:Nat}(h:k<ps.length):ps.getD k 0=ps[k]:=by simp[List.getD,h]
def QR(f:Nat->Int){ps:List Nat}(nd:ps.Nodup)(x:Nat->Int):∀k,k<=ps.length->(∀i,i<k->jW f ps x k (ps.getD i 0)=(f (ps.getD i 0)-x i)%97)/\∀i,k<=i->i<ps.length->jW f ps x k (ps.getD i 0)=f (ps.getD i 0)
 |0,_=>⟨λi hi=>by lia,λi _ _=>rfl⟩
 |k+1,hk=>by
  obtain⟨h1,h2⟩:=QR f nd x k (by lia);have ne:∀i,i<ps.length->i≠k->ps.getD i 0≠ps.getD k 0:=λi hi hik e=>by rw[getD_get hi,getD_get (by lia)]at e;exact hik ((oM nd).mp e)
  refine⟨λi hi=>?_,λi hi hl=>?_⟩
  .unfold jW;by_cases e:i=k
   .subst e;rw[aL rfl,h2 i (ae _) (by lia)]
   rw[aK (ne i (by lia) e),h1 i (by lia)]
  unfold jW;rw[aK (ne i hl (by lia)),h2 i (by lia) hl]
def Ml{ps:List Nat}(nd:ps.Nodup)(hb:∀p∈ps,p<24):Hz ps.length (λi q=>P 5 ((ps.getD q 0:Nat)*(1+(i:Int)))):=by
 have hg:∀q,q<ps.length->ps.getD q 0<24:=λq hq=>by rw[getD_get hq];exact hb _ (jJ _)
 refine(Hz.congr (b:=λi q=>((5:Int) ^ ps.getD q 0) ^ (i+1)) λi q hi hq=>?_).mpr ?_
 .have e:((ps.getD q 0:Nat)*(1+(i:Int))).toNat=ps.getD q 0*(i+1):=by have:((ps.getD q 0:Nat):Int)*(1+(i:Int))=((ps.getD q 0*(i+1):Nat):Int):=(by rw[D0,Int.natCast_add];congr 1;lia);rw[this,dh]
  show(97:Int) ∣ (5:Int) ^ ((ps.getD q 0:Nat)*(1+(i:Int))).toNat%97-_;rw[e,wj];exact gz _
 intro z hz i hi;refine K7 ps.length (λq=>(5:Int) ^ ps.getD q 0) z (λi _=>g8 ji _) (λi j hi hj yg=>eX (hg i hi) (hg j hj) λe=>?_) hz i hi;rw[getD_get hi,getD_get hj]at e;exact yg ((oM nd).mp e)
def Zg{n:Nat}{a:qq}{b x y:Nat->Int}(hr:Hz n a)(hx:∀i,i<n->(97:Int) ∣ ip n (a i) x-b i)(hy:∀i,i<n->(97:Int) ∣ ip n (a i) y-b i):∀i,i<n->(97:Int) ∣ x i-y i:=by
 intro i hi;refine hr (λj=>x j-y j) (λi hi=>?_) i hi;have e:ip n (a i) (λj=>x j-y j)=ip n (a i) x-ip n (a i) y:=by have:=fL 1 (-1) (λj=>a i j*x j) (λj=>a i j*y j) n;unfold ip;rw[show å n (λj=>a i j*(x j-y j))=å n (λj=>1*(a i j*x j)+-1*(a i j*y j))from bP n λj _=>by grind,this];lia
 rw[e];have:=gU (hx i hi) (hy i hi)
 rwa [show ip n (a i) x-b i-(ip n (a i) y-b i)=ip n (a i) x-ip n (a i) y by lia]at this
def LB{f g x:Nat->Int}{ps:List Nat}(bf:∀i,i<24->0<=f i/\f i<97)(h:Az f g)(hn:¬dZ f)(hp:QO (λj=>T (St j) 24 f) ps)(hx:∀i,i<ps.length->(97:Int) ∣ ip ps.length (λq=>P 5 ((ps.getD q 0:Nat)*(1+(i:Int)))) x-T (St i) 24 f):∀i,i<24->jW f ps x ps.length i=g i:=by
 have e:=IC bf h hn hp;have wM:=hp.wM;have hy:∀i,i<ps.length->(97:Int) ∣ ip ps.length (λq=>P 5 ((ps.getD q 0:Nat)*(1+(i:Int)))) (λq=>f (ps.getD q 0)-g (ps.getD q 0))-T (St i) 24 f:=λi hi=>by
  have k:=DF h (j:=i) (by omega);rw[<-e]at k;have k2:(97:Int) ∣ ip ps.length (λq=>P 5 ((ps.getD q 0:Nat)*(1+(i:Int)))) (λq=>f (ps.getD q 0)-g (ps.getD q 0))-ë ps λi'=>(f i'-g i')*St i ^ i':=by
   have h1:=fL 1 (-1) (λq=>P 5 ((ps.getD q 0:Nat)*(1+(i:Int)))*(f (ps.getD q 0)-g (ps.getD q 0))) (λq=>(f (ps.getD q 0)-g (ps.getD q 0))*St i ^ ps.getD q 0) ps.length;have h2:(97:Int) ∣ å ps.length λq=>1*(P 5 ((ps.getD q 0:Nat)*(1+(i:Int)))*(f (ps.getD q 0)-g (ps.getD q 0)))+-1*((f (ps.getD q 0)-g (ps.getD q 0))*St i ^ ps.getD q 0):=mI _ λq _=>by
    have ee:((ps.getD q 0:Nat)*(1+(i:Int))).toNat=ps.getD q 0*(i+1):=by have:((ps.getD q 0:Nat):Int)*(1+(i:Int))=((ps.getD q 0*(i+1):Nat):Int):=(by rw[D0,Int.natCast_add];congr 1;omega);rw[this,dh]
    have h3:(97:Int) ∣ P 5 ((ps.getD q 0:Nat)*(1+(i:Int)))-(5 ^ ps.getD q 0) ^ (i+1):=by unfold P;rw[ee,wj];exact gz _
    obtain⟨a,ha⟩:=h3;obtain⟨c,hc⟩:=vS (p:=ps.getD q 0) (show i<6 by omega);generalize P 5 ((ps.getD q 0:Nat)*(1+(i:Int)))=A at *;generalize((5:Int) ^ ps.getD q 0) ^ (i+1)=B at *;generalize St i ^ ps.getD q 0=C at *;have e1:A=B+97*a:=(by omega);have e2:C=B+97*c:=(by omega);rw[e1,e2];exact⟨(f (ps.getD q 0)-g (ps.getD q 0))*(a-c),by grind⟩
   rw[h1]at h2;have e5:∀a b:Int,1*a+-1*b=a-b:=λa b=>(by omega);rw[e5]at h2;exact h2
  have:=gU k2 k;omega
 have hu:=Zg (Ml hp.nd hp.b) hx hy;intro i hi;by_cases hm:i∈ps
 .obtain⟨k,hk,rfl⟩:=eU hm;have h1:=(QR f hp.nd x ps.length (ae _)).1 k hk;rw[getD_get hk]at h1;rw[h1];have h2:=hu k hk;rw[getD_get hk]at h2;have h3:=h.b ps[k] hi;omega
 rw[E7 f ps x ps.length (ae _) i hm];apply kU;intro z;exact hm (by rw[e];exact fu.mpr ⟨hi,z⟩)
def LC{f x:Nat->Int}{ps:List Nat}(bf:∀i,i<24->0<=f i/\f i<97)(nd:ps.Nodup)(wM:ps.length<=2)(hs:dZ (jW f ps x ps.length)):Az f (jW f ps x ps.length)where
 b:=QQ ps x bf ps.length
 sealed:=hs
 wM:=iA (mK _ ps (nH _ _ _) λi hi=>by apply kU;intro z;exact(fu.mp hi).2 (E7 f ps x ps.length (ae _) i z).symm) wM
def Az.self{f:Nat->Int}(bf:∀i,i<24->0<=f i/\f i<97)(h:dZ f):Az f f:=⟨bf,h,by
 have e:gh 24 f f=[]:=by simp[gh]
 rw[e];exact bt _⟩
end My
namespace My
def õ(l:List Int):Int:=l.foldl (λn s=>n*97+s) 0
def low:Nat->Int->List Int
 |0,_=>[]
 |m+1,n=>n%97::low m (n/97)
def û:Nat->Int->Int
 |0,n=>n
 |m+1,n=>û m (n/97)
def Mm:∀(m:Nat)(n:Int),(low m n).length=m
 |0,_=>rfl
 |m+1,n=>by rw[low,cQ,Mm]
def ID:∀(m:Nat)(n:Int),low (m+1) n=low m n++[û m n%97]
 |0,n=>rfl
 |m+1,n=>by rw[low,ID m (n/97),low,û,Du]
def DG:∀(m:Nat)(n:Int),û (m+1) n=û m n/97
 |0,n=>rfl
 |m+1,n=>by rw[û,DG m (n/97),û]
def OH(l:List Int)(s:Int):õ (l++[s])=õ l*97+s:=by unfold õ;rw[List.foldl_append];rfl
end My
namespace L2
open PySem PySem.Spec PyProof.Rows
section
variable{X:Cx}{j k:Nat}{ps:List Str}{sp:Sp}{x:Str}{p pos:Pos}{e:Expr}{es:List Expr}{t:TA}
def aO(D:ã X.prog X.w X.K X.mg X.à j x ps sp)(hr:fY k X.A)(ha:PA X (e::es) t)(h:j<=k:=by decide)(hg:Gl X x:=by rfl)(PF:(x==("__debug__":Str))=false:=by decide)(he:starEach (e::es) X.env=(false,eval e X.env)::starEach es X.env:=by rfl)(GL:(backTo pos (starEach es X.env)).any (·.1)=false:=by rfl):PE X (.Call (.Name x p) (e::es) [] pos) (PD sp [] E0 t):=WI (D.mono h) hr eG ha hg PF he GL
end
variable{X:Cx}{N ps:List Str}{sc scope:Scope}{x:Str}{te:TE}{pos:Pos}{r:R2}{iter:Expr}{body:List Stmt}{wi:TI}{g:TG}{ifs:List Expr}{ix:List (Option Nat)}{mg:Str->Option JZ}{à:Heap}
section
variable{e a b:Expr}{ta tb:TE}{pos':Pos}
def aV(i:Nat)(S:aM X.N ps sc)(he:PE X e te)(hi:X.N[i]?=some x:=by rfl)(hx:í X.env.scope x:=by first|exact .inl rfl|exact .inr rfl)(hs:swapsWith e (some (.Name x pos')) pos.line X.env=pure false:=by rfl)(hf:X.fn x=true\/X.env.scope.names.lookup x=some .local:=by first|exact .inl rfl|exact .inr rfl|assumption):
  PS X (.Assign [.Name x pos'] e pos) (O0 te (gX i)):=Vm S.nd hi hx he hs hf
def bu(i:Nat)(S:aM X.N ps sc)(hi:X.N[i]?=some x:=by rfl)(hx:í X.env.scope x:=by first|exact .inl rfl|exact .inr rfl)(hf:X.fn x=true\/X.env.scope.names.lookup x=some .local:=by first|exact .inl rfl|exact .inr rfl|assumption):PG X (.Name x pos) (gX i):=gs S.nd hi hx hf
def ah(hr:V1 X r)(ha:PE X a ta)(hb:PE X b tb)(hs:ML b:=by exact λ_ _=>rfl):PE X (.Subscript a b pos) (R0 r ta tb):=YZ hr ha hb hs
def bI{op:CmpOp}(ho:kY X (compareOp op) r)(ha:PE X a ta)(hb:PE X b tb)(hm:behindInMarks op b=false:=by exact iF _):PT X (.Compare a [op] [b] pos) (O5 (R0 r ta tb)):=jR ho ha hb hm
def cu{tg:Expr}{tb:TS}(hi:PI X.J7 tg iter wi)(hg:PG X.J7 tg g)(hb:JP X.J7 body tb)(hc:X.calm=true:=by rfl)(hs:∀x,foldedSetIterable iter X.env x=pure x:=by intro _;rfl):PS X (.For tg iter body [] pos) (YH wi g tb):=PS.J7 (tu oh hc hi hg hb hs)
def cv(K:Ni){p:Pos}(hm:X.mg "len"=none)(ha:PE X e te)(hg:Gl X "len":=by rfl)(hK:X.K=K:=by rfl)(he:starEach [e] X.env=(false,eval e X.env)::starEach [] X.env:=by rfl)(GL:(backTo pos (starEach [] X.env)).any (·.1)=false:=by rfl):
  PE X (.Call (.Name "len" p) [e] [] pos) (tCB (λxs H Q=>∃p ys,xs=[.ref p]/\(aX K H p ys\/bO K H p ys)/\Q (.int ys.length) H) (Uq te PB)):=bW (NY K hK) hg hm boot_len (aA ha aD he) (by decide) (by decide) he GL
end
section
variable{elt:Expr}{tt:TT}{Nc:List Str}{px:Pos}
def j7(S:aM N ps sc)(hi:PI X (.Name x px) iter wi)(hb:∀(C:JY)(fp:List JY)(s:JX)(H:Hp),WD (yf X Nc scope C fp s H) ifs tt/\PE (yf X Nc scope C fp s H) elt te)(hc:X.calm=true:=by rfl)(AY:X.env.scope=sc:=by rfl)(hN:X.N=N:=by rfl)(h:zB Nc ix scope sc N=true:=by decide +kernel)(hn:Nc[0]?=some x:=by rfl)(hx:∀C fp s H,(yf X Nc scope C fp s H).env.scope.names.lookup x=some .local:=by intro _ _ _ _;rfl)(hs:∀x,foldedSetIterable iter X.env x=pure x:=by intro _;rfl):PE X (.ListComp elt [⟨.Name x px,iter,ifs,0⟩] scope pos) (tLC wi ix (gX 0) tt te) :=
 AW hc (iG sc N AY hN h) hi (λC fp s H=>⟨gs (iG (ix:=ix) sc N AY hN h).nd hn (.inl (hx C fp s H)) (.inr (hx C fp s H)),hb C fp s H⟩) hs
def yI(i:Nat){y:Str}{py PU:Pos}(S:aM N ps sc)(hi:PI X (.Name x px) iter wi)(hb:∀(C:JY)(fp:List JY)(s:JX)(H:Hp),WD (yf X Nc scope C fp s H) ifs tt/\PE (yf X Nc scope C fp s H) elt te)(hy:X.N[i]?=some y:=by rfl)(hl:í X.env.scope y:=by first|exact .inl rfl|exact .inr rfl)(hc:X.calm=true:=by rfl)(AY:X.env.scope=sc:=by rfl)(hN:X.N=N:=by rfl)(h:zB Nc ix scope sc N=true:=by decide +kernel)(hn:Nc[0]?=some x:=by rfl)(hx:∀C fp s H,(yf X Nc scope C fp s H).env.scope.names.lookup x=some .local:=by intro _ _ _ _;rfl)(Xe:swapsWith (.ListComp elt [⟨.Name x px,iter,ifs,0⟩] scope pos) (some (.Name y py)) PU.line X.env=pure true:=by rfl)(hs:∀x,foldedSetIterable iter X.env x=pure x:=by intro _;rfl)(hf:X.fn y=true\/X.env.scope.names.lookup y=some .local:=by first|exact .inl rfl|exact .inr rfl|assumption):PS X (.Assign [.Name y py] (.ListComp elt [⟨.Name x px,iter,ifs,0⟩] scope pos) PU) (O0 (tLC wi ix (gX 0) tt te) (gX i)) :=
 vD (hN▸S.nd) hy hl hc (iG sc N AY hN h) hi (λC fp s H=>⟨gs (iG (ix:=ix) sc N AY hN h).nd hn (.inl (hx C fp s H)) (.inr (hx C fp s H)),hb C fp s H⟩) Xe hs hf
end
section
variable{P:Ja}{w:Jb}{K:Ni}
def bd1{α:Type}{f g:List JZ->α}(h:∀a0,f [a0]=g [a0]):∀us:List JZ,us.length=1->f us=g us
 |[a0],_=>h a0
def bd2{α:Type}{f g:List JZ->α}(h:∀a0 a1,f [a0,a1]=g [a0,a1]):∀us:List JZ,us.length=2->f us=g us
 |[a0,a1],_=>h a0 a1
def bd3{α:Type}{f g:List JZ->α}(h:∀a0 a1 a2,f [a0,a1,a2]=g [a0,a1,a2]):∀us:List JZ,us.length=3->f us=g us
 |[a0,a1,a2],_=>h a0 a1 a2
def bd4{α:Type}{f g:List JZ->α}(h:∀a0 a1 a2 a3,f [a0,a1,a2,a3]=g [a0,a1,a2,a3]):∀us:List JZ,us.length=4->f us=g us
 |[a0,a1,a2,a3],_=>h a0 a1 a2 a3
def bd5{α:Type}{f g:List JZ->α}(h:∀a0 a1 a2 a3 a4,f [a0,a1,a2,a3,a4]=g [a0,a1,a2,a3,a4]):∀us:List JZ,us.length=5->f us=g us
 |[a0,a1,a2,a3,a4],_=>h a0 a1 a2 a3 a4
def aY.eY{st:Stmt}{k:Nat}{sp:Sp}(F:aY K mg x st)(S:aM N ps (aH st))(o7:∀(f:JY)(bM:JZ)(A:Jd)(á:List Env)(s:JX)(H:Hp)(vs:List V)(Q:VK)(E:XK),fY k (A.deeper (envOfC x (aH st) s.heap.objs.size f bM))->sp vs H Q E ->
   ∃t,JP (Yn P w K mg à N x st f bM A á s H E) (dG st) t/\t {nx:=λ_ H'=>Q .cX H',rt:=Q} (start N vs) H)(len:∀vs H Q E,sp vs H Q E->vs.length=ps.length:=by
   intro _ _ _ _ h
   first|(cases h;subst_vars;rfl)|repeat' (first|(obtain⟨rfl,_⟩:=h;rfl)|obtain⟨_,h⟩:=h))(hb:∀(kV doc pm:JZ)(an:Option JY)(bM ct:JZ)(us:List JZ),us.length=ps.length->bindArgs (W.fnOf x x (gx st) (dG st) (aH st) .none kV doc pm an bM ct) ⟨us,[]⟩=pure (ps.zip us):=by
   intro _ _ _ _ _ _;first|exact bd1 λ_=>rfl|exact bd2 λ_ _=>rfl|exact bd3 λ_ _ _=>rfl|exact bd4 λ_ _ _ _=>rfl|exact bd5 λ_ _ _ _ _=>rfl):ã P w K mg à (k+1) x ps sp:=F.def S hb len o7
end
def nL{H0 H:Hp}{a:JY}{o:HO}(s:aI H0 H)(h:H a=none):∃H1,ü H a o=H1/\aI H0 H1/\H1 a=some o:=⟨_,rfl,s.new h,aB⟩
def bZ:(200000:Nat)<=sizeLine:=by decide
end L2
set_option genInjectivity false
namespace K85
open PySem L2 PyProof.Rows
def ñ:0<=sizeLine:=by decide
def ò:1<=sizeLine:=by decide
def ó:2<=sizeLine:=by decide
def ô:3<=sizeLine:=by decide
def zz4:4<=sizeLine:=by decide
def zz5:5<=sizeLine:=by decide
def zz6:6<=sizeLine:=by decide
def zz7:7<=sizeLine:=by decide
def ý(i:Nat):Stmt:=PySem.Challenge.pw_stormpost_k85_whole_letters_through_cell.main.body.getD i (.Pass ⟨0,0,0,0⟩)
abbrev xN:Stmt:=ý 10
abbrev pH:Stmt:=ý 11
abbrev pI:Stmt:=ý 12
abbrev E8:Stmt:=ý 13
abbrev xO:Stmt:=ý 14
abbrev uK:Stmt:=ý 15
abbrev uL:Stmt:=ý 16
abbrev lH:Stmt:=ý 17
abbrev pJ:Stmt:=ý 18
abbrev nI:Stmt:=ý 19
abbrev xP:Stmt:=ý 20
abbrev vT:Stmt:=ý 21
abbrev gP:Stmt:=ý 27
abbrev pK:Stmt:=ý 29
abbrev uM:Stmt:=ý 30
abbrev uN:Stmt:=ý 31
abbrev pL:Stmt:=ý 32
abbrev qr:Stmt:=ý 33
abbrev A0:Stmt:=ý 34
abbrev nJ:Stmt:=ý 36
abbrev xQ:Stmt:=ý 37
abbrev jA:Stmt:=ý 38
abbrev nK:Stmt:=ý 39
abbrev A1:Stmt:=ý 40
abbrev lJ:Stmt:=ý 44
abbrev lK:Stmt:=ý 45
abbrev nO:Stmt:=ý 46
abbrev nP:Stmt:=ý 47
abbrev j8:Stmt:=ý 48
abbrev j9:Stmt:=ý 49
abbrev nQ:Stmt:=ý 52
abbrev uO:Stmt:=ý 69
abbrev eZ:Stmt:=ý 70
abbrev uP:Stmt:=ý 72
abbrev lL:Stmt:=ý 73
abbrev kA:Stmt:=ý 74
abbrev pM:Stmt:=ý 75
abbrev pN:Stmt:=ý 76
abbrev nR:Stmt:=ý 91
abbrev lM:Stmt:=ý 92
abbrev lN:Stmt:=ý 93
abbrev xR:Stmt:=ý 94
abbrev nU:Stmt:=ý 95
abbrev pO:Stmt:=ý 96
abbrev pP:Stmt:=ý 97
abbrev pQ:Stmt:=ý 98
abbrev nV:Stmt:=ý 99
abbrev xS:Stmt:=ý 100
abbrev pR:Stmt:=ý 101
abbrev uQ:Stmt:=ý 102
abbrev xT:Stmt:=ý 103
abbrev nW:Stmt:=ý 106
abbrev nX:Stmt:=ý 107
abbrev jX:Stmt:=ý 108
abbrev pT:Stmt:=ý 109
abbrev A2:Stmt:=ý 110
abbrev nY:Stmt:=ý 111
abbrev kB:Stmt:=ý 112
abbrev g9:Stmt:=ý 113
abbrev pU:Stmt:=ý 114
abbrev fg:Stmt:=ý 115
abbrev jY:Stmt:=ý 116
abbrev nZ:Stmt:=ý 117
abbrev pV:Stmt:=ý 120
abbrev pW:Stmt:=ý 121
abbrev ng:Stmt:=ý 122
abbrev lO:Stmt:=ý 123
abbrev lP:Stmt:=ý 124
abbrev pX:Stmt:=ý 125
abbrev lQ:Stmt:=ý 126
abbrev pY:Stmt:=ý 127
abbrev pZ:Stmt:=ý 128
abbrev nh:Stmt:=ý 129
abbrev QS:Stmt:=ý 130
def kh:Stmt->List Stmt
 |.ClassDef _ _ _ b _ _ _ _ _ _ _=>b
 |_=>[]
abbrev lR:Stmt:=(kh (ý 77)).getD 0 (.Pass ⟨0,0,0,0⟩)
abbrev LD:Stmt:=(kh (ý 104)).getD 0 (.Pass ⟨0,0,0,0⟩)
abbrev LF:Stmt:=(kh (ý 77)).getD 1 (.Pass ⟨0,0,0,0⟩)
abbrev LG:Stmt:=(kh (ý 104)).getD 1 (.Pass ⟨0,0,0,0⟩)
abbrev LH:Stmt:=(kh (ý 104)).getD 2 (.Pass ⟨0,0,0,0⟩)
abbrev E9:Stmt:=(kh (ý 104)).getD 3 (.Pass ⟨0,0,0,0⟩)
abbrev vU:Stmt:=(kh (ý 104)).getD 4 (.Pass ⟨0,0,0,0⟩)
abbrev LI:Stmt:=(kh (ý 104)).getD 5 (.Pass ⟨0,0,0,0⟩)
structure Ad where
 DIVISOR:JY
 Joiner:JY
 KINDS:JY
 Map:JY
 iy:JY
 init:JY
 A3:JY
 xU:JY
 ni:JY
 nj:JY
 mM:JY
 A4:JY
structure Txt(K:Ni)(mg:Str->Option JZ)(t:Ad):Prop where
 xV:∃tk,mg "ABOUT_LENGTH_AT"=some (.int 5 tk)
 vV:∃tk,mg "BIRTH_SIGNS"=some (.int 2 tk)
 vW:∃tk,mg "COUNT_SIGNS"=some (.int 3 tk)
 Zh:∃tk,mg "ENDS"=some (.int 1 tk)
 FA:∃tk,mg "FREE_PLACES"=some (.int 18 tk)
 IE:∃tk,mg "GOES_ON"=some (.int 0 tk)
 Te:∃tk,mg "HOUSES"=some (.int 32 tk)
 IF:∃tk,mg "KIND_AT"=some (.int 3 tk)
 cLETTERS:∃tk,mg "LETTERS"=some (.str " !\"#$ &'()*+,-./0123456789:;<=>?@ABCDEFGHIJKLMNOPQRSTUVWXYZ[\\]^_`abcdefghijklmnopqrstuvwxyz{|}~\n" tk)
 A5:∃tk,mg "LONGEST_ABOUT"=some (.int 4 tk)
 B9:∃tk,mg "LONGEST_BODY"=some (.int 56 tk)
 CA:∃tk,mg "LONGEST_NAME"=some (.int 4 tk)
 A6:∃tk,mg "LONGEST_PIECE"=some (.int 10 tk)
 FC:∃tk,mg "LONGEST_WAY"=some (.int 6 tk)
 IG:∃tk,mg "MANY_AT"=some (.int 4 tk)
 IH:∃tk,mg "MOST_BIRTH"=some (.int 9000 tk)
 II:∃tk,mg "MOST_COUNT"=some (.int 900000 tk)
 IJ:∃tk,mg "MOST_NAMES"=some (.int 4 tk)
 LJ:∃tk,mg "MOST_NEAR"=some (.int 5 tk)
 FD:∃tk,mg "MOST_NUMBER"=some (.int 900000 tk)
 IK:∃tk,mg "MOST_QUIET"=some (.int 10 tk)
 IL:∃tk,mg "MOST_SIGNS"=some (.int 72 tk)
 A7:∃tk,mg "NEAR_AT"=some (.int 5 tk)
 LK:∃tk,mg "NUMBER_AT"=some (.int 1 tk)
 CB:∃tk,mg "NUMBER_SIGNS"=some (.int 3 tk)
 FE:∃tk,mg "PLACES"=some (.int 24 tk)
 Mn:∃tk,mg "ROOT"=some (.int 5 tk)
 dQ:∃tk,mg "SIGNS"=some (.int 97 tk)
 pf:∃tk,mg "SIGNS_A_PIECE"=some (.int 9 tk)
 Mo:∃tk,mg "SUMS"=some (.int 6 tk)
 Tf:∃tk,mg "UNTOLD"=some (.int 5 tk)
 FF:∃tk,mg "WAY_AT"=some (.int 6 tk)
 A8:∃tk,mg "WAY_LENGTH_AT"=some (.int 4 tk)
 ph:∃tk,mg "WIRE_SIGNS"=some (.int 6 tk)
 QT:mg "all"=none
 Zi:mg "any"=none
 Wq:mg "dict"=none
 cS:mg "len"=none
 iI:mg "list"=none
 VD:mg "max"=none
 Zj:mg "min"=none
 cw:mg "range"=none
 uR:mg "reversed"=none
 Mp:mg "set"=none
 hJ:mg "sorted"=none
 gG:mg "tuple"=none
 IM:mg "zip"=none
 QU:mg "DIVISOR"=some (.ref t.DIVISOR)
 Tg:mg "Joiner"=some (.ref t.Joiner)
 FG:mg "KINDS"=some (.ref t.KINDS)
 Ws:mg "Map"=some (.ref t.Map)
 IP:Na K t.DIVISOR [V.int (21),V.int (80),V.int (53),V.int (2),V.int (55),V.int (63)]
 FH:Na K t.KINDS [V.str "news",V.str "part",V.str "had",V.str "ask",V.str "answer"]
 Wt:Y7 K t.KINDS
 Th:Mk K t.Joiner t.iy
 OI:∃fd,vA K "__init__" "Joiner.__init__" lR t.iy fd
 Wu:Mk K t.Map t.init
 fi:∃fd,vA K "__init__" "Map.__init__" LD t.init fd
 vX:O9 K t.Joiner
 qu:mq K t.Joiner "joined"
 Ti:ET K t.Joiner "take" t.A3
 Wv:∃fd,vA K "take" "Joiner.take" LF t.A3 fd
 jB:O9 K t.Map
 iJ:mq K t.Map "latest"
 FI:ET K t.Map "hear" t.xU
 Ww:∃fd,vA K "hear" "Map.hear" LG t.xU fd
 nu:ET K t.Map "news" t.ni
 Wx:∃fd,vA K "news" "Map.news" LH t.ni fd
 vY:ET K t.Map "wires" t.nj
 Tj:∃fd,vA K "wires" "Map.wires" E9 t.nj fd
 xW:ET K t.Map "holder" t.mM
 QV:∃fd,vA K "holder" "Map.holder" vU t.mM fd
 To:ET K t.Map "copy" t.A4
 Wy:∃fd,vA K "copy" "Map.copy" LI t.A4 fd
section
variable{P:Ja}{w:Jb}{K:Ni}{mg:Str->Option JZ}{à:Heap}{t:Ad}
variable{f z:Nat->Int}{i:Nat}{x lo hi house goal s one Ā:Int}{ps:List (Int×Int)}{xs:List V}{S as:List JY}{H H' MW:Hp}{rows:List (List Int)}{ns js ws:List Int}{C D:JY}{fd fn fh fw:Jc}{v:V}{ds es:List PyData}{Q:VK}{L L':List (Tk×Int)}{ms:List (List Nat)}{ts:List (Nat×Int)}{cs:List Nat}
def iK:Sp:=λvs H Q _=>∃n:Int,vs=[.int n]/\Q (.bl (decide (0<=n/\n<97))) H
def ac{N P:List Str}{sc:Scope}(a:sc.kind=.function:=by rfl)(b:sc.isCoroutine=false:=by rfl)(c:sc.isGenerator=false:=by rfl)(d:N.Nodup:=by decide +kernel)(e:N.take P.length=P:=by rfl)(f:∀x∈P,sc.names.lookup x=some .local\/sc.names.lookup x=some .cell:=by decide +kernel)(g:∀y∈sc.names,y.2≠.free:=by decide +kernel):aM N P sc:=⟨a,b,c,d,e,f,g⟩
def LL:aM ["number"] ["number"] (aH xN):=ac
def LM(F:aY K mg "is_sign" xN)(T:Txt K mg t):ã P w K mg à 1 "is_sign" ["number"] iK:=by
 refine F.eY LL λf bM A á s H vs Q E hr h=>?_;obtain⟨n,rfl,q⟩:=h;refine⟨_,aE (aQ (uz l9 kZ aF (pv 0) (aR T.dQ))),?_⟩;refine⟨_,rfl,_,_,rfl,rfl,_,rfl,?_⟩;by_cases h0:0<=n
 .rw[bw h0];refine ig ⟨_,_,rfl,rfl,?_⟩;have e:decide (n<97)=decide (0<=n/\n<97):=by simp[h0]
  show Q (.bl (decide (n<97))) H;rw[e];exact q
 rw[cL h0];refine c9 ?_;have e:false=decide (0<=n/\n<97):=by simp[h0]
 show Q (.bl false) H;rw[e];exact q
def jZ:Sp:=λvs H Q _=>∃n:Int,vs=[.int n]/\(0<=n/\n<97)/\Q .cX H
def FJ:aM ["number"] ["number"] (aH pH):=ac
def FK(F:aY K mg "look_sign" pH)(T:Txt K mg t)(cJ:ã P w K mg à 1 "is_sign" ["number"] iK):ã P w K mg à 2 "look_sign" ["number"] jZ:=by
 refine F.eY FJ λf bM A á s H vs Q E hr h=>?_;obtain⟨n,rfl,h0,q⟩:=h;refine⟨_,aE (ax (eE (fX (aO cJ hr (aA (pv 0) aD))))
   (aE (dP))
   (aW)),?_⟩
 refine⟨_,rfl,n,rfl,_,rfl,?_⟩;rw[bw h0];exact c9 q
def nv:Sp:=λvs H Q _=>∃n:Int,vs=[.int n]/\(0<n/\n<97)/\Q .cX H
def FL:aM ["number"] ["number"] (aH pI):=ac
def FN(F:aY K mg "look_unit" pI)(T:Txt K mg t)(cx:ã P w K mg à 2 "look_sign" ["number"] jZ):ã P w K mg à 3 "look_unit" ["number"] nv:=by
 refine F.eY FL λf bM A á s H vs Q E hr h=>?_;obtain⟨n,rfl,h0,q⟩:=h;refine⟨_,aC (bA (aO cx hr (aA (pv 0) aD)))
  (aE (ax (bI jN (pv 0) aF)
   (aE (dP))
   (aW))),?_⟩
 exact⟨_,rfl,n,rfl,⟨by lia,h0.2⟩,_,rfl,rfl,_,rfl,eT (λe=>by have:=V.int.inj e;lia) q⟩
def pq:Sp:=λvs H Q _=>∃a k:Int,vs=[.int a,.int k]/\0<=k/\(0<=a/\a<97)/\Q (.int (My.P a k)) H
def QW:L2.St->Hp->Nat:=λZ _=>match Z with
 |[_,_,_,_,some (.int s)]=>s.toNat
 |_=>0
def kC:aM ["a","k","product","square","left"] ["a","k"] (aH E8):=ac
def QX(F:aY K mg "power" E8)(T:Txt K mg t)(cx:ã P w K mg à 2 "look_sign" ["number"] jZ):ã P w K mg à 3 "power" ["a","k"] pq:=by
 refine F.eY kC λf bM A á s H vs Q E hr h=>?_;obtain⟨a,k,rfl,k0,h0,q1⟩:=h;refine⟨_,aC (bA (aO cx hr (aA (pv 0) aD)))
  (aC (aV 2 kC aF)
  (aC (aV 3 kC (pv 0))
  (aC (aV 4 kC (pv 1))
  (aC (PS.J7 (uy oh (bI x6 (pv 4) aF)
   (aC (ax (bI jN (aT cO (pv 4) aF) aF)
    (aE (aV 2 kC (aT cO (aT dM (pv 2) (pv 3)) (aR T.dQ))))
    (aW))
   (aC (aV 3 kC (aT cO (aT dM (pv 3) (pv 3)) (aR T.dQ)))
   (aE (aV 4 kC (aT y8 (pv 4) aF)))))))
  (aE (aQ (pv 2))))))),?_⟩
 refine⟨_,rfl,a,rfl,h0,?_⟩;refine⟨_,rfl,?_⟩;refine⟨_,rfl,?_⟩;refine GZ (λZ H'=>∃p q l:Int,Z=[some (.int a),some (.int k),some (.int p),some (.int q),some (.int l)]/\H'=H/\0<=p/\p<97/\0<=q/\q<97/\0<=l/\p*q ^ l.toNat%97=My.P a k) QW ⟨1,a,k,rfl,rfl,by decide,by decide,h0.1,h0.2,k0,My.Hx⟩ ?_ ?_
 .rintro Z H' ⟨p,q,l,rfl,rfl,p0,p1,q0,q1',l0,hh⟩;refine⟨_,rfl,_,_,rfl,rfl,_,rfl,?_⟩;refine WB (λh=>?_) (λh=>?_)
  .have hl:0<l:=tM h;have mlt:(l/2).toNat<l.toNat:=(by lia);refine⟨_,rfl,_,_,rfl,rfl,(by show(0:Int)<2;decide),rfl,_,rfl,?_⟩;refine WB (λh2=>?_) (λh2=>?_)
   .have ho:l%2=1:=V.int.inj (tM h2);refine⟨_,rfl,_,rfl,_,_,rfl,rfl,.inl ⟨by lia,by lia⟩,_,_,rfl,rfl,(by show(0:Int)<97;decide),?_⟩;refine⟨_,rfl,_,rfl,_,_,rfl,rfl,.inl ⟨by lia,by lia⟩,_,_,rfl,rfl,(by show(0:Int)<97;decide),?_⟩;refine⟨_,rfl,_,_,rfl,rfl,⟨by decide,by decide⟩,?_⟩;exact⟨⟨_,_,_,rfl,rfl,gn _ (by decide),gQ _ (by decide),gn _ (by decide),gQ _ (by decide),by lia,My.OC hl ho hh⟩,mlt⟩
   have ho:l%2≠1:=λz=>h2 (bw (az V.int z));refine⟨_,rfl,_,rfl,_,_,rfl,rfl,.inl ⟨by lia,by lia⟩,_,_,rfl,rfl,(by show(0:Int)<97;decide),?_⟩;refine⟨_,rfl,_,_,rfl,rfl,⟨by decide,by decide⟩,?_⟩;exact⟨⟨_,_,_,rfl,rfl,p0,p1,gn _ (by decide),gQ _ (by decide),by lia,My.K4 hl ho hh⟩,mlt⟩
  have hl:¬0<l:=λz=>h (bw z);refine⟨_,rfl,?_⟩;rw[My.OD (by lia) p0 p1 hh];exact q1
 rintro Z H' Q1 Q2 hm ⟨v,e,i,j,ei,ej,k,ek,q⟩;exact⟨v,e,i,j,ei,ej,k,ek,hm _ _ q⟩
def uS:Sp:=λvs H Q _=>∃a:Int,vs=[.int a]/\(0<a/\a<97)/\Q (.int (My.P a 95)) H
def LN:aM ["a"] ["a"] (aH xO):=ac
def LO(F:aY K mg "inverse" xO)(T:Txt K mg t)(gc:ã P w K mg à 3 "look_unit" ["number"] nv)(gH:ã P w K mg à 3 "power" ["a","k"] pq):ã P w K mg à 4 "inverse" ["a"] uS:=by
 refine F.eY LN λf bM A á s H vs Q E hr h=>?_;obtain⟨a,rfl,h0,q⟩:=h;refine⟨_,aC (bA (aO gc hr (aA (pv 0) aD)))
  (aE (aQ (aO gH hr (aA (pv 0) (aA (aT o4 (aR T.dQ) aF) aD))))),?_⟩
 exact⟨_,rfl,a,rfl,h0,_,rfl,_,_,rfl,rfl,a,95,rfl,by decide,⟨by lia,h0.2⟩,q⟩
def yJ:Sp:=λvs H Q _=>∃n:Int,vs=[.int n]/\(0<n/\n<97)/\Q (.int (My.ex n)) H
def iz:aM ["a","steps","reached"] ["a"] (aH uK):=ac
def Zk:L2.St->Hp->Nat:=λZ _=>match Z with
 |[_,some (.int s),_]=>(100-s).toNat
 |_=>0
def IQ(F:aY K mg "exponent" uK)(T:Txt K mg t)(gc:ã P w K mg à 3 "look_unit" ["number"] nv):ã P w K mg à 4 "exponent" ["a"] yJ:=by
 refine F.eY iz λf bM A á s H vs Q E hr h=>?_;obtain⟨a,rfl,h0,q1⟩:=h;refine⟨_,aC (bA (aO gc hr (aA (pv 0) aD)))
  (aC (aV 1 iz aF)
  (aC (aV 2 iz aF)
  (aC (PS.J7 (uy oh (bI rZ (pv 2) (pv 0))
   (aC (aV 2 iz (aT cO (aT dM (pv 2) (aR T.Mn)) (aR T.dQ)))
   (aE (aV 1 iz (aT bT (pv 1) aF))))))
  (aE (aQ (pv 1)))))),?_⟩
 refine⟨_,rfl,a,rfl,h0,?_⟩;refine GZ (λZ H'=>∃st:Int,Z=[some (.int a),some (.int st),some (.int (My.up st))]/\H'=H/\0<=st/\st<=My.ex a) Zk ⟨0,by rw[My.TN];rfl,rfl,lC _,My.QF a⟩ ?_ ?_
 .rintro Z H' ⟨st,rfl,rfl,s0,s1⟩;refine⟨_,rfl,_,rfl,rfl,_,rfl,?_⟩;have he:=My.ZX h0.1 h0.2;by_cases z:My.up st=a
  .have e:decide (V.int (My.up st)=V.int a)=true:=bw (by rw[z]);rw[e];refine c9 ⟨_,rfl,?_⟩;have es:st=My.ex a:=by
    by_cases l:st<My.ex a
    .exact absurd z (My.ZZ h0.1 h0.2 s0 l)
    lia
   rw[es];exact q1
  have e:decide (V.int (My.up st)=V.int a)=false:=cL λq=>z (V.int.inj q);rw[e];refine ig ?_;have u0:0<=My.up st:=gn _ (by decide);have u1:My.up st<97:=gQ _ (by decide);refine⟨_,rfl,_,_,rfl,rfl,.inl ⟨by lia,by lia⟩,_,_,rfl,rfl,(by show(0:Int)<97;decide),_,rfl,_,_,rfl,rfl,?_⟩;have AX:st≠My.ex a:=λq=>z (by rw[q];exact My.ZY h0.1 h0.2);refine⟨⟨st+1,by rw[<-My.TM s0 rfl];rfl,rfl,by lia,by lia⟩,?_⟩;show(100-(st+1)).toNat<(100-st).toNat;lia
 rintro Z H' Q1 Q2 hm ⟨v,e,u,e2,hs,k,ek,q⟩;exact⟨v,e,u,e2,hs,k,ek,hm _ _ q⟩
def QY(m:Int)(ns:List Int):Prop:=(ns.length:Int)=m/\∀n∈ns,0<=n/\n<97
inductive fj(K:Ni)(vs:List V)(H:Hp)(Q:VK)(_:XK):Prop
 |mk (l:JY) (ns:List Int) (m:Int) (_:vs=[.ref l,.int m]) (_:aX K H l (ns.map V.int)) (_:QY m ns) (_:Q .cX H)
def jQ:aM ["signs","many","sign"] ["signs","many"] (aH gP):=ac
def ad{α:Type}{f g:List JZ->α}(h:∀a0,f [a0]=g [a0]):∀us:List JZ,us.length=1->f us=g us
 |[a0],_=>h a0
def bm{α:Type}{f g:List JZ->α}(h:∀a0 a1,f [a0,a1]=g [a0,a1]):∀us:List JZ,us.length=2->f us=g us
 |[a0,a1],_=>h a0 a1
def rO(F:vE K mg "look_signs_cells" "look_signs" gP)(T:Txt K mg t)(cJ:ã P w K mg à 1 "is_sign" ["number"] iK):ã P w K mg à 2 "look_signs_cells" ["signs","many"] (fj K):=by
 refine F.def jQ (λ_ _ _ _ _ _=>bm λ_ _=>rfl) (λvs H Q E h=>?_) (λf bM A á s H vs Q E hr h=>?_)
 .obtain⟨l,ns,m,rfl,_⟩:=h;rfl
 obtain⟨l,ns,m,rfl,hl,ok,q⟩:=h;refine⟨_,aC (ax (bI rZ (cv K T.cS (pv 0)) (pv 1))
   (aE (dP))
   (aW))
  (aE (cu (bH K (pv 0)) (bu 2 jQ) (aE (ax (eE (fX (aO cJ hr (aA (pv 2) aD))))
    (aE (dP))
    (aW))))),?_⟩
 refine⟨_,rfl,l,_,rfl,.inl hl,_,rfl,rfl,_,rfl,ij (by rw[aJ,ok.1]) ?_⟩;refine⟨_,rfl,l,rfl,⟨_,hl⟩,dq (K:=K) (a:=l) (xs:=ns.map V.int) (λi Z H'=>∃x:Option V,Z=[some (.ref l),some (.int m),x]/\H'=H) ⟨none,rfl,rfl⟩ (λi Z H' _ ⟨_,_,e⟩=>by rw[e];exact hl) ?_ ?_⟩
 .rintro i y Z H' hi ⟨x,rfl,rfl⟩;obtain⟨z,hz,rfl⟩:=dH hi;refine⟨_,rfl,z,rfl,_,rfl,?_⟩;rw[bw (ok.2 z (bL hz))];exact c9 ⟨_,rfl,rfl⟩
 rintro Z H' ⟨x,rfl,rfl⟩;exact q
inductive vZ(K:Ni)(vs:List V)(H:Hp)(Q:VK)(_:XK):Prop
 |mk (l:JY) (ns:List Int) (_:vs=[.ref l]) (_:aX K H l (ns.map V.int)) (_:QY 24 ns) (_:Q .cX H)
def FO:aM ["cell"] ["cell"] (aH pK):=ac
def FP(F:aY K mg "look_cell" pK)(T:Txt K mg t)(cK:ã P w K mg à 2 "look_signs_cells" ["signs","many"] (fj K)):ã P w K mg à 3 "look_cell" ["cell"] (vZ K):=by refine F.eY FO λf bM A á s H vs Q E hr h=>?_;obtain⟨l,ns,rfl,hl,ok,q⟩:=h;refine⟨_,aE (bA (aO cK hr (aA (pv 0) (aA (aR T.FE) aD)))),?_⟩;exact⟨_,rfl,l,ns,24,rfl,hl,ok,q⟩
structure IsCell(n:Nat)(f:Nat->Int):Prop where
 b:∀i,i<n->0<=f i/\f i<97
def IsCell.row{n:Nat}(h:IsCell n f):QY n ((List.range n).map f):=by refine⟨by simp,λx hx=>?_⟩;obtain⟨i,hi,rfl⟩:=ao.mp hx;exact h.b i (jL.mp hi)
inductive yK(K:Ni)(vs:List V)(H:Hp)(Q:VK)(_:XK):Prop
 |mk (l:JY) (n:Nat) (f:Nat->Int) (x:Int) (_:vs=[.ref l,.int x]) (_:aX K H l (ii n f)) (_:Q (.int (My.T x n f)) H)
def Tp{n:Nat}{f:Nat->V}{x:V}(h:(cp n f).reverse[i]?=some x):i<n/\x=f (n-1-i):=by
 have hi:i<n:=by
  have:=(bq.mp h).1
  rwa [rT,aU]at this
 rw[Jm (by rw[aU];exact hi),aU,eJ (by lia)]at h;exact⟨hi,(bR h).symm⟩
def ki:aM ["signs","point","value","sign"] ["signs","point"] (aH uM):=ac
def IS(F:aY K mg "value_at" uM)(T:Txt K mg t):ã P w K mg à 1 "value_at" ["signs","point"] (yK K):=by
 refine F.eY ki λf bM A á s H vs Q E hr h=>?_;obtain⟨l,n,f,x,rfl,hl,q⟩:=h;refine⟨_,aC (aV 2 ki aF)
  (aC (cu (Ef K (by rfl) T.uR (aA (pv 0) aD)) (bu 3 ki) (aE (aV 2 ki (aT cO (aT bT (aT dM (pv 2) (pv 1)) (pv 3)) (aR T.dQ)))))
  (aE (aQ (pv 2)))),?_⟩
 refine⟨_,rfl,l,_,rfl,hl,SU (K:=K) (a:=l) (xs:=ii n f) (λi Z H'=>∃v:Option V,Z=[some (.ref l),some (.int x),some (.int (My.hv f n x i)),v]/\H'=H) ⟨none,rfl,rfl⟩ (λi Z H' _ ⟨_,_,e⟩=>by rw[e];exact hl) ?_ ?_⟩
 .rintro i y Z H' hi ⟨v,rfl,rfl⟩;obtain⟨Sn,rfl⟩:=Tp hi;have h0:=My.VB f n x i;have h1:=My.VC f n x i;refine⟨_,rfl,_,rfl,_,_,rfl,rfl,.inl ⟨by lia,by lia⟩,_,rfl,_,_,rfl,rfl,_,_,rfl,rfl,(by show(0:Int)<97;decide),?_⟩;exact⟨_,rfl,rfl⟩
 rintro Z H' ⟨v,rfl,rfl⟩;refine⟨_,rfl,?_⟩;rw[aU,My.aC0];exact q
inductive qA(K:Ni)(vs:List V)(H:Hp)(Q:VK)(_:XK):Prop
 |mk (l:JY) (f:Nat->Int) (_:vs=[.ref l]) (_:aX K H l (ii 24 f)) (_:IsCell 24 f) (_:∀p H',H p=none->aI H H'->H' p=some (.lst (ii 6 λj=>My.T (My.St j) 24 f))->Q (.ref p) H')
def yL:aM ["cell"] ["cell"] (aH uN):=ac
def IT(F:aY K mg "troubles" uN)(T:Txt K mg t)(qB:ã P w K mg à 3 "look_cell" ["cell"] (vZ K))(uT:ã P w K mg à 1 "value_at" ["signs","point"] (yK K))(gH:ã P w K mg à 3 "power" ["a","k"] pq):
  ã P w K mg à 4 "troubles" ["cell"] (qA K):=by
 refine F.eY yL λf bM A á s H vs Q E hr h=>?_;obtain⟨l,f,rfl,hl,cf,q⟩:=h;refine⟨_,aC (bA (aO qB hr (aA (pv 0) aD)))
  (aE (aQ (j7 (Nc:=["j","cell"]) (ix:=[none,some 0]) yL (wx (by rfl) T.cw (aA aF (aA (aT bT (aR T.Mo) aF) aD))) (λC fp s H=>⟨bN,(aO uT hr (aA (pv 1) (aA (aO gH hr (aA (aR T.Mn) (aA (pv 0) aD))) aD)))⟩)))),?_⟩
 have hsz:=bZ;refine⟨_,rfl,l,(List.range 24).map f,rfl,by rw[m9];exact hl,cf.row,?_⟩;refine⟨_,_,rfl,rfl,1,_,rfl,⟨by decide,by decide,by decide,by decide⟩,λD hD=>?_⟩;refine j3 (lo:=1) (n:=6) (λi Z H'=>∃v:Option V,Z=[v,some (.ref l)]/\aI H H'/\H' D=some (.lst (ii i λj=>My.T (My.St j) 24 f))) ⟨none,rfl,(aI.refl _).new hD,aB⟩ ?_ ?_
 .rintro i Z H' N hN hi ⟨v,rfl,s1,h1⟩;refine cA ?_;refine⟨_,rfl,_,rfl,5,_,rfl,by lia,by decide,?_⟩;refine⟨l,24,f,_,rfl,s1.seq hl,?_⟩;rw[My.aCz i hi];refine⟨_,h1,by rw[aU];lia,?_⟩;exact hN _ _ ⟨_,rfl,s1.put hD,jU rfl⟩
 rintro Z H' ⟨v,rfl,s1,h1⟩;exact q D H' hD s1 h1
def qx(f:Nat->Int):Bool:=decide ((List.range 6).map (λj=>My.T (My.St j) 24 f)=(List.range 6).map λ_=>(0:Int))
def kj:qx f=true↔My.dZ f:=by
 unfold qx My.dZ;rw[uo];constructor
 .intro h j hj;have:=az (λl=>l.getD j 0) h;simp only[NZ 6 _ j hj]at this;exact this
 intro h;apply iY;intro j hj;exact h j (jL.mp hj)
def LP(h:¬My.dZ f):qx f=false:=by rw[Jz];exact λz=>h (kj.mp z)
inductive vc(K:Ni)(vs:List V)(H:Hp)(Q:VK)(_:XK):Prop
 |mk (l:JY) (f:Nat->Int) (_:vs=[.ref l]) (_:aX K H l (ii 24 f)) (_:IsCell 24 f) (_:∀H',aI H H'->Q (.bl (qx f)) H')
def FQ:aM ["cell"] ["cell"] (aH pL):=ac
def FR(F:aY K mg "is_sealed" pL)(T:Txt K mg t)(iL:ã P w K mg à 4 "troubles" ["cell"] (qA K)):ã P w K mg à 5 "is_sealed" ["cell"] (vc K):=by refine F.eY FQ λf bM A á s H vs Q E hr h=>?_;obtain⟨l,f,rfl,hl,cf,q⟩:=h;refine⟨_,aE (aQ (dY (MP K (dU hr)) (aO iL hr (aA (pv 0) aD)) (aT KW (bJ (aA aF aD)) (aR T.Mo)) (iF _))),?_⟩;refine⟨_,rfl,l,f,rfl,hl,cf,λp H1 hp s1 h1=>?_⟩;refine⟨ò,λa1 Tq=>?_⟩;refine⟨a1,_,_,rfl,rfl,aB,by decide,by decide,by decide,λa2 Tr=>?_⟩;have s2:=((aI.refl H1).new (o:=.lst [V.int 0]) Tq).new (o:=.lst (List.replicate (6:Int).toNat [V.int 0]).flatten) Tr;refine⟨p,a2,_,(List.range 6).map λ_=>0,rfl,rfl,aX.of (by rw[m9];exact s2 _ _ h1),aX.of (by rw[aB];rfl),?_⟩;exact q _ (s1.trans s2)
inductive A9(K:Ni)(vs:List V)(H:Hp)(Q:VK)(_:XK):Prop
 |mk (l:JY) (r:Nat->Int) (s:Int) (_:vs=[.ref l,.int s]) (_:aX K H l (ii 6 r)) (_:(∀k,k<6->0<=r k/\r k<97)) (_:0<=s) (_:s<97) (_:∀p H',H p=none->aI H H'->H' p=some (.lst (ii 6 λk=>((if k<5 then r (k+1)else 0)-(r 0+s)*My.Dv k)%97))->Q (.ref p) H')
def Tt:([V.int (21),V.int (80),V.int (53),V.int (2),V.int (55),V.int (63)]:List V)=ii 6 My.Dv:=by rfl
def BA:aM ["rest","sign","times"] ["rest","sign"] (aH qr):=ac
def LQ(F:aY K mg "carried" qr)(T:Txt K mg t):ã P w K mg à 1 "carried" ["rest","sign"] (A9 K):=by
 refine F.eY BA λf bM A á s H vs Q E hr h=>?_;obtain⟨l,r,sg,rfl,hl,br,s0,s1,q⟩:=h;refine⟨_,aC (aV 2 BA (aT bT (ah (aZ K) (pv 0) aF) (pv 1)))
  (aE (aQ (AW rfl (Nc:=["low","part","times"]) (ix:=[none,none,some 2]) (iG (aH qr) ["rest","sign","times"] rfl rfl (by decide +kernel)) (vP K (by rfl) T.IM (aA (aT (dI K) (cP (cU K) (pv 0) (bj aF) jS) (bJ (aA aF aD))) (aA (mm (v:=.ref t.DIVISOR) (by rfl) T.QU rfl) aD))) (λC fp s H=>⟨(iS K (i:=0) (j:=1) rfl (show(["low","part","times"]:List Str).Nodup by decide +kernel) rfl rfl (Or.inl rfl) (Or.inl rfl)),bN,(aT cO (aT o4 (pv 0) (aT dM (pv 2) (pv 1))) (aR T.dQ))⟩)))),?_⟩
 have hsz:=bZ;have b0:=br 0 (by decide);refine⟨_,rfl,l,_,_,_,rfl,rfl,hl,dO (n:=6) (by decide) (by decide),_,rfl,_,_,rfl,rfl,?_⟩;refine⟨_,rfl,_,rfl,l,_,rfl,hl,λp1 GQ=>?_⟩;rw[show dN (ii 6 r) (some 1) none=ii 5 λk=>r (1+k)from Ka (lo:=1) (n:=6) (by decide)];have t1:=(aI.refl H).new (o:=.lst (ii 5 λk=>r (1+k))) GQ;refine⟨ò,λp2 uE=>?_⟩;have n12:p1≠p2:=aP aB uE;have t2:=t1.new (o:=.lst [V.int 0]) uE;refine⟨p1,p2,_,_,rfl,rfl,aX.of (by rw[aN n12];exact aB),aX.of aB,by rw[aU];decide,λp3 Oq=>?_⟩;have ec:(ii 5 λk=>r (1+k))++[V.int 0]=ii 6 λk=>if k<5 then r (k+1)else 0:=by
  rw[Gk];refine cR λk hk=>?_;by_cases e:k=5
  .subst e;rfl
  rw[aK e];dsimp only;rw[aL (by lia),AB]
 rw[ec];have t3:=t2.new (o:=.lst (ii 6 λk=>if k<5 then r (k+1)else 0)) Oq;have h3:∀H0:Hp,(ü H0 p3 (.lst (ii 6 λk=>if k<5 then r (k+1)else 0))) p3=some (.lst (ii 6 λk=>if k<5 then r (k+1)else 0)):=λ_=>aB;refine⟨true,false,p3,t.DIVISOR,rfl,⟨_,aX.of (h3 _)⟩,⟨_,T.IP.sq _⟩,λD hD=>?_⟩;have h3':=h3 (ü (ü H p1 (.lst (ii 5 λk=>r (1+k)))) p2 (.lst [V.int 0]));generalize ü (ü (ü H p1 (.lst (ii 5 λk=>r (1+k)))) p2 (.lst [V.int 0])) p3 (.lst (ii 6 λk=>if k<5 then r (k+1)else 0))=H3 at *;refine Er (K:=K) (u:=true) (v:=false) (a:=p3) (b:=t.DIVISOR) (xs:=ii 6 λk=>if k<5 then r (k+1)else 0) (ys:=ii 6 My.Dv) (by rw[aU,aU]) (λi Z H'=>∃v1 v2:Option V,Z=[v1,v2,some (.int (r 0+sg))]/\aI H3 H'/\H' D=some (.lst (ii i λk=>((if k<5 then r (k+1)else 0)-(r 0+sg)*My.Dv k)%97)))
  ⟨none,none,rfl,(aI.refl _).new hD,aB⟩ (λi Z H' _ h_=>by obtain⟨_,_,_,s2,_⟩:=h_;exact⟨aX.of (s2 _ _ h3'),by rw[<-Tt];exact T.IP.sq _⟩) ?_ ?_
 .rintro i x y pp Z H' N hN hx hy ⟨v1,v2,rfl,s2,h2⟩ Wz;obtain⟨hi,rfl⟩:=ø hx;obtain⟨_,rfl⟩:=ø hy;refine AZ ?_;have nD:D≠pp:=aP h2 Wz;refine⟨_,rfl,_,rfl,_,rfl,_,_,rfl,rfl,.inl ⟨by lia,by lia⟩,_,_,rfl,rfl,_,_,rfl,rfl,(by show(0:Int)<97;decide),?_⟩;refine⟨_,by rw[aN nD];exact h2,by rw[aU];lia,?_⟩;exact hN _ _ ⟨_,_,rfl,(s2.new Wz).put hD,jU rfl⟩
 rintro Z H' ⟨v1,v2,rfl,s2,h2⟩;rw[aU]at h2;exact q D H' (t3.free hD) (t3.trans s2) h2
inductive DH(K:Ni)(vs:List V)(H:Hp)(Q:VK)(_:XK):Prop
 |mk (l:JY) (f:Nat->Int) (_:vs=[.ref l]) (_:aX K H l (ii 18 f)) (_:IsCell 18 f) (_:∀p H',H p=none->aI H H'->H' p=some (.lst (ii 24 (My.iB f)))->Q (.ref p) H')
def mN:aM ["signs","rest","sign"] ["signs"] (aH A0):=ac
def OJ(F:aY K mg "sealed" A0)(T:Txt K mg t)(cK:ã P w K mg à 2 "look_signs_cells" ["signs","many"] (fj K))(xX:ã P w K mg à 1 "carried" ["rest","sign"] (A9 K)):ã P w K mg à 3 "sealed" ["signs"] (DH K):=by
 refine F.eY mN λf bM A á s H vs Q E hr h=>?_;obtain⟨l,f,rfl,hl,cf,q⟩:=h;refine⟨_,aC (bA (aO cK hr (aA (pv 0) (aA (aR T.FA) aD))))
  (aC (aV 1 mN (aT KW (bJ (aA aF aD)) (aR T.Mo)))
  (aC (cu (bH K (pv 0)) (bu 2 mN) (aE (aV 1 mN (aO xX hr (aA (pv 1) (aA (pv 2) aD))))))
  (aE (aQ (aT (dI K) (av (dB K) (by rfl) T.iI i7 (aA (pv 0) aD)) (j7 (Nc:=["part"]) (ix:=[none]) mN (bH K (pv 1)) (λC fp s H=>⟨bN,(aT cO (AN t9 (pv 0)) (aR T.dQ))⟩))))))),?_⟩
 have hsz:=bZ;refine⟨_,rfl,l,(List.range 18).map f,18,rfl,by rw[m9];exact hl,cf.row,?_⟩;refine⟨ò,λa1 Tq=>?_⟩;refine⟨a1,_,_,rfl,rfl,aB,by decide,by decide,by decide,λa2 Tr=>?_⟩;have s1:=((aI.refl H).new (o:=.lst [V.int 0]) Tq).new (o:=.lst (List.replicate (6:Int).toNat [V.int 0]).flatten) Tr;refine⟨_,rfl,l,rfl,⟨_,s1.seq hl⟩,dq (K:=K) (a:=l) (xs:=ii 18 f) (λi Z H'=>∃(v:Option V)(p:JY),Z=[some (.ref l),some (.ref p),v]/\aI H H'/\H' p=some (.lst (ii 6 (My.rs f i)))) ⟨none,a2,rfl,s1,by rw[aB];rfl⟩ (λi Z H' _ h_=>by obtain⟨_,_,_,s2,_⟩:=h_;exact s2.seq hl) ?_ ?_⟩
 .rintro i y Z H' hi ⟨v,p,rfl,s2,h2⟩;obtain⟨Sn,rfl⟩:=ø hi;have bi:=cf.b i Sn;refine⟨_,rfl,_,rfl,p,My.rs f i,f i,rfl,aX.of h2,λk _=>⟨My.Zc f i k,My.Zd f i k⟩,bi.1,bi.2,λp2 H2 uE s3 h3=>?_⟩;exact⟨_,p2,rfl,s2.trans s3,h3⟩
 rintro Z H' ⟨v,p,rfl,s2,h2⟩;rw[aU]at h2;refine⟨_,rfl,l,_,rfl,.inl (s2.seq hl),λb1 hb1=>?_⟩;have s3:=(aI.refl H').new (o:=.lst (ii 18 f)) hb1;refine⟨_,rfl,p,rfl,⟨_,aX.of (s3 _ _ h2)⟩,λD hD=>?_⟩;have nD:b1≠D:=aP aB hD;refine xC (K:=K) (a:=p) (n:=6) (F:=λk=>V.int (My.rs f 18 k)) (λi Z H4=>∃v:Option V,Z=[v]/\aI (ü H' b1 (.lst (ii 18 f))) H4/\H4 D=some (.lst (ii i λk=>-(My.rs f 18 k)%97))) ⟨none,rfl,(aI.refl _).new hD,aB⟩ (λi Z H4 _ ⟨_,_,s4,_⟩=>aX.of (s4 _ _ (s3 _ _ h2))) ?_ ?_
 .rintro i Z H4 N hN hi ⟨v,rfl,s4,h4⟩;refine cA ?_;refine⟨_,rfl,_,rfl,_,_,rfl,rfl,(by show(0:Int)<97;decide),?_⟩;refine⟨_,h4,by rw[aU];lia,?_⟩;exact hN _ _ ⟨_,rfl,s4.put hD,jU rfl⟩
 rintro Z H4 ⟨v,rfl,s4,h4⟩;refine⟨b1,D,_,_,rfl,rfl,aX.of (s4 _ _ aB),aX.of h4,by rw[aU,aU];decide,λc1 hc1=>?_⟩;have s5:=((s2.trans s3).trans s4);refine q c1 _ (s5.free hc1) (s5.new hc1) ?_;rw[aB,SS];refine az (λz=>some (HO.lst z)) (cR λi hi=>?_);unfold My.iB;split<;>rfl
inductive yM(K:Ni)(vs:List V)(H:Hp)(Q:VK)(_:XK):Prop
 |mk (l:JY) (n:Nat) (f:Nat->Int) (z:Int) (_:vs=[.ref l,.int z]) (_:aX K H l (ii n f)) (_:n<=1000) (_:∀p H',H p=none->aI H H'->H' p=some (.lst (ii (n+1) λj=>(if j<n then f j else z)%97))->Q (.ref p) H')
def yN:aM ["row","side"] ["row","side"] (aH uL):=ac
def IU(F:aY K mg "equation" uL)(T:Txt K mg t):ã P w K mg à 1 "equation" ["row","side"] (yM K):=by
 refine F.eY yN λf bM A á s H vs Q E hr h=>?_;obtain⟨l,n,f',z,rfl,hl,hn,q⟩:=h;refine⟨_,aE (aQ (aT (dI K) (j7 (Nc:=["sign"]) (ix:=[none]) yN (bH K (pv 0)) (λC fp s H=>⟨bN,(aT cO (pv 0) (aR T.dQ))⟩)) (bJ (aA (aT cO (pv 1) (aR T.dQ)) aD)))),?_⟩;have hsz:=bZ;refine⟨_,rfl,l,rfl,⟨_,hl⟩,λD hD=>?_⟩;refine xC (K:=K) (a:=l) (n:=n) (F:=λj=>V.int (f' j)) (λi Z H'=>∃v:Option V,Z=[v]/\aI H H'/\H' D=some (.lst (ii i λj=>f' j%97))) ⟨none,rfl,(aI.refl _).new hD,aB⟩ (λi Z H' _ ⟨_,_,s1,_⟩=>s1.seq hl) ?_ ?_
 .rintro i Z H' N hN hi ⟨v,rfl,s1,h1⟩;refine cA ?_;refine⟨_,rfl,_,_,rfl,rfl,(by show(0:Int)<97;decide),_,h1,by rw[aU];lia,?_⟩;exact hN _ _ ⟨_,rfl,s1.put hD,jU rfl⟩
 rintro Z H' ⟨v,rfl,s1,h1⟩;refine⟨_,rfl,_,_,rfl,rfl,(by show(0:Int)<97;decide),ò,λp2 uE=>?_⟩;have n2:D≠p2:=aP h1 uE;have s2:=s1.new (o:=.lst [V.int (z%97)]) uE;refine⟨D,p2,_,_,rfl,rfl,aX.of (by rw[aN n2];exact h1),aX.of aB,by rw[aU];show n+1<=sizeLine;lia,λp3 Oq=>?_⟩;refine q p3 _ (s2.free Oq) (s2.new Oq) ?_;have e3:ii (n+1) (λj=>(if j<n then f' j else z)%97)=ii n (λj=>f' j%97)++[V.int (z%97)]:=by refine(Aa n _).trans ?_;rw[show cp n (λj=>V.int ((if j<n then f' j else z)%97))=ii n λj=>f' j%97 from cR λi hi=>by rw[aL hi]];show _++[V.int ((if n<n then f' n else z)%97)]=_;rw[aK (gR n)]
 rw[aB,e3]
inductive qC(K:Ni)(vs:List V)(H:Hp)(Q:VK)(_:XK):Prop
 |mk (l:JY) (m n c:Nat) (a:My.qq) (_:vs=[.ref l,.int c]) (_:Ed K H l m n a) (_:c<n) (_:c<=m) (_:m<=1000) (_:n<=1000) (_:(∀i:Nat,c<=i->i<m->a i c≠0->(∀k,c<=k->k<i->a k c=0)->Q (.int i) H)) (_:((∀i,c<=i->i<m->a i c=0)->Q .cX H))
def qD:aM ["table","column","place"] ["table","column"] (aH lH):=ac
def BB(F:aY K mg "pivot_place" lH)(T:Txt K mg t):ã P w K mg à 1 "pivot_place" ["table","column"] (qC K):=by
 refine F.eY qD λf bM A á s H vs Q E hr h=>?_;obtain⟨l,m,n,c,a,rfl,⟨as,g1,g2⟩,hc,hcm,hm,hn,q1,q2⟩:=h;refine⟨_,aC (cu (wx (by rfl) T.cw (aA (pv 1) (aA (cv K T.cS (pv 0)) aD))) (bu 2 qD) (aE (ax (bI rZ (ah (aZ K) (ah (aZ K) (pv 0) (pv 2)) (pv 1)) aF)
    (aE (aQ (pv 2)))
    (aW))))
  (aE (aQ eC)),?_⟩
 refine⟨_,rfl,_,rfl,l,_,rfl,.inl g1,(c:Int),((m8 m as).length:Nat),rfl,⟨by lia,by lia,by lia,by rw[aU];lia⟩,?_⟩;have en:((((m8 m as).length:Nat):Int)-(c:Int)).toNat=m-c:=by rw[aU];lia
 rw[en];refine gY (lo:=(c:Int)) (n:=m-c) (λi Z H'=>∃v:Option V,Z=[some (.ref l),some (.int c),v]/\H'=H/\∀k,c<=k->k<c+i->a k c=0) ⟨none,rfl,rfl,λk h1 h2=>by lia⟩ ?_ ?_
 .rintro i Z H' hi ⟨v,rfl,rfl,hz⟩;have ei:((c:Int)+(i:Nat)).toNat=c+i:=by lia
  refine⟨_,rfl,_,rfl,l,_,_,_,rfl,rfl,g1,dO (by lia) (by lia),_,rfl,_,_,_,_,rfl,rfl,g2 _ (by lia),dO (by lia) (by lia),rfl,_,rfl,?_⟩;by_cases z:a (c+i) c=0
  .refine ij (by rw[ei,dh,z]) ?_;refine⟨_,rfl,rfl,λk h1 h2=>?_⟩;by_cases e:k=c+i
   .rw[e];exact z
   exact hz k h1 (by lia)
  refine Gj (λe=>z (by have:=V.int.inj e;rwa [ei,dh]at this)) ?_;refine⟨_,rfl,?_⟩;have:=q1 (c+i) (by lia) (by lia) z hz;have e:((c+i:Nat):Int)=(c:Int)+(i:Nat):=by lia
  rw[e]at this;exact this
 rintro Z H' ⟨v,rfl,rfl,hz⟩;exact q2 λi h1 h2=>hz i h1 (by lia)
inductive vd(K:Ni)(vs:List V)(H:Hp)(Q:VK)(_:XK):Prop
 |mk (l:JY) (m n c d:Nat) (a:My.qq) (_:vs=[.ref l,.int c,.int d]) (_:Ed K H l m n a) (_:c<m) (_:d<m) (_:m<=1000) (_:∀p H',H p=none->aI H H'->Ed K H' p m n (My.swap a c d)->Q (.ref p) H')
def ve:aM ["table","one","other","rows"] ["table","one","other"] (aH pJ):=ac
def FT(F:aY K mg "exchanged" pJ)(T:Txt K mg t):ã P w K mg à 1 "exchanged" ["table","one","other"] (vd K):=by
 refine F.eY ve λf bM A á s H vs Q E hr h=>?_;obtain⟨l,m,n,c,d,a,rfl,⟨as,g1,g2⟩,hc,hd,hm,q⟩:=h;refine⟨_,aC (aV 3 ve (av (dB K) (by rfl) T.iI i7 (aA (pv 0) aD)))
  (aC (tm (ah (aZ K) (pv 0) (pv 2)) (tj (pv 3) (pv 1) set_list))
  (aC (tm (ah (aZ K) (pv 0) (pv 1)) (tj (pv 3) (pv 2) set_list))
  (aE (aQ (pv 3))))),?_⟩
 refine⟨_,rfl,l,_,rfl,.inl g1,λp hp=>?_⟩;have s1:=(aI.refl H).new (o:=.lst (m8 m as)) hp;refine⟨_,rfl,_,rfl,l,_,_,_,rfl,rfl,s1.seq g1,dO (by lia) (by lia),_,rfl,_,rfl,p,_,_,_,rfl,rfl,aB,xB (by lia) (by lia),?_⟩;have s2:=s1.put (o:=.lst ((m8 m as).set (c:Int).toNat (V.ref (as (d:Int).toNat)))) hp;rw[vF (by lia)]at *;refine⟨_,rfl,_,rfl,l,_,_,_,rfl,rfl,s2.seq g1,dO (by lia) (by lia),_,rfl,_,rfl,p,_,_,_,rfl,rfl,aB,xB (by lia) (by lia),?_⟩;rw[vF (by lia)];refine⟨_,rfl,?_⟩;refine q p _ hp (s2.put hp) ⟨λi=>if i=d then as c else if i=c then as d else as i,aX.of ?_,λi hi=>(s2.put hp).seq ?_⟩
 .rw[aB];refine az (λl=>some (HO.lst l)) (cR λi hi=>?_);rw[dh,dh];by_cases e:i=d
  .simp[e]
  by_cases e2:i=c
  .subst e2;simp[e]
  simp[e,e2]
 unfold My.swap;by_cases e:i=d
 .subst e;by_cases e2:i=c
  .subst e2;simp;exact g2 i hi
  simp[e2];exact g2 c hc
 by_cases e2:i=c
 .subst e2;simp[e];exact g2 d hd
 simp[e,e2];exact g2 i hi
inductive yO(K:Ni)(vs:List V)(H:Hp)(Q:VK)(_:XK):Prop
 |mk (l b:JY) (n:Nat) (f g:Nat->Int) (z:Int) (_:vs=[.ref l,.ref b,.int z]) (_:aX K H l (ii n f)) (_:aX K H b (ii n g)) (_:n<=1000) (_:0<=z) (_:z<97) (_:∀p H',H p=none->aI H H'->H' p=some (.lst (ii n λj=>(f j-z*g j)%97))->Q (.ref p) H')
def IV:aM ["row","head","times"] ["row","head","times"] (aH nI):=ac
def IW(F:aY K mg "lessened" nI)(T:Txt K mg t):ã P w K mg à 1 "lessened" ["row","head","times"] (yO K):=by
 refine F.eY IV λf bM A á s H vs Q E hr h=>?_;obtain⟨l,b,n,f',g',z,rfl,hl,hb,hn,z0,z1,q⟩:=h;refine⟨_,aE (aQ (AW rfl (Nc:=["sign","top","times"]) (ix:=[none,none,some 2]) (iG (aH nI) ["row","head","times"] rfl rfl (by decide +kernel)) (vP K (by rfl) T.IM (aA (pv 0) (aA (pv 1) aD))) (λC fp s H=>⟨(iS K (i:=0) (j:=1) rfl (show(["sign","top","times"]:List Str).Nodup by decide +kernel) rfl rfl (Or.inl rfl) (Or.inl rfl)),bN,(aT cO (aT o4 (pv 0) (aT dM (pv 2) (pv 1))) (aR T.dQ))⟩))),?_⟩;have hsz:=bZ;refine⟨_,rfl,_,rfl,true,true,l,b,rfl,⟨_,hl⟩,⟨_,hb⟩,λD hD=>?_⟩;refine Er (K:=K) (a:=l) (b:=b) (xs:=ii n f') (ys:=ii n g') (by rw[aU,aU]) (λi Z H'=>∃v u:Option V,Z=[v,u,some (.int z)]/\aI H H'/\H' D=some (.lst (ii i λj=>(f' j-z*g' j)%97))) ⟨none,none,rfl,(aI.refl _).new hD,aB⟩ (λi Z H' _ h_=>by obtain⟨_,_,_,s1,_⟩:=h_;exact⟨s1.seq hl,s1.seq hb⟩) ?_ ?_
 .rintro i x y p Z H' N hN hx hy ⟨v,u,rfl,s1,h1⟩ hp;obtain⟨hi,rfl⟩:=ø hx;obtain⟨_,rfl⟩:=ø hy;refine AZ ?_;have nD:D≠p:=aP h1 hp;refine⟨_,rfl,_,rfl,_,rfl,_,_,rfl,rfl,.inl ⟨by lia,by lia⟩,_,_,rfl,rfl,_,_,rfl,rfl,(by show(0:Int)<97;decide),_,(by rw[aN nD];exact h1),by rw[aU];lia,?_⟩;exact hN _ _ ⟨_,_,rfl,(s1.new hp).put hD,jU rfl⟩
 rintro Z H' ⟨v,u,rfl,s1,h1⟩;rw[aU]at h1;exact q D H' hD s1 h1
inductive BC(K:Ni)(vs:List V)(H:Hp)(Q:VK)(_:XK):Prop
 |mk (l:JY) (m n c:Nat) (a:My.qq) (_:vs=[.ref l,.int c]) (_:Ed K H l m n a) (_:c<m) (_:c<n) (_:m<=1000) (_:n<=1000) (_:(∀i j,i<m->j<n->0<=a i j/\a i j<97)) (_:a c c≠0) (_:∀p H',H p=none->aI H H'->Ed K H' p m n (My.clear a c (My.P (a c c) 95))->Q (.ref p) H')
def kD:aM ["table","column","factor","head","rows"] ["table","column"] (aH xP):=ac
def LR(F:aY K mg "cleared" xP)(T:Txt K mg t)(jj:ã P w K mg à 4 "inverse" ["a"] uS)(uU:ã P w K mg à 1 "lessened" ["row","head","times"] (yO K)):ã P w K mg à 5 "cleared" ["table","column"] (BC K):=by
 refine F.eY kD λf bM A á s H vs Q E hr h=>?_;obtain⟨l,m,n,c,a,rfl,⟨as,g1,g2⟩,hcm,hcn,hm,hn,ha,h0,q⟩:=h;refine⟨_,aC (aV 2 kD (aO jj hr (aA (ah (aZ K) (ah (aZ K) (pv 0) (pv 1)) (pv 1)) aD)))
  (aC (aV 3 kD (j7 (Nc:=["sign","factor"]) (ix:=[none,some 2]) kD (bH K (ah (aZ K) (pv 0) (pv 1))) (λC fp s H=>⟨bN,(aT cO (aT dM (pv 0) (pv 1)) (aR T.dQ))⟩)))
  (aC (yI 4 (Nc:=["row","head","column"]) (ix:=[none,some 3,some 1]) kD (bH K (pv 0)) (λC fp s H=>⟨bN,(aO uU hr (aA (pv 0) (aA (pv 1) (aA (ah (aZ K) (pv 0) (pv 2)) aD))))⟩))
  (aC (tm (pv 3) (tj (pv 4) (pv 1) set_list))
  (aE (aQ (pv 4)))))),?_⟩
 have hsz:=bZ;have ec:((c:Nat):Int).toNat=c:=dh c;have Rm:=ha c c hcm hcn;refine⟨_,rfl,_,rfl,l,_,_,_,rfl,rfl,g1,dO (by lia) (by lia),_,rfl,_,_,_,_,rfl,rfl,g2 _ (by lia),dO (by lia) (by lia),_,rfl,?_,?_⟩
 .rw[ec];exact⟨by lia,Rm.2⟩
 rw[ec];have f0:=My.ZV (a c c) 95;have f1:=My.Wj (a c c) 95;generalize My.P (a c c) 95=VE at *;refine⟨_,rfl,_,rfl,l,_,_,_,rfl,rfl,g1,dO (by lia) (by lia),_,rfl,⟨_,g2 _ (by lia)⟩,λD hD=>?_⟩;rw[ec]
 let I1:Nat->_->_->Prop:=λi Z H'=>∃v:Option V,Z=[v,some (.int VE)]/\aI H H'/\H' D=some (.lst (ii i λj=>a c j*VE%97))
 refine xC (K:=K) (a:=as c) (n:=n) (F:=λj=>V.int (a c j)) I1 ⟨none,rfl,(aI.refl _).new hD,aB⟩ (λi Z H' _ ⟨_,_,s1,_⟩=>s1.seq (g2 c hcm)) ?_ ?_
 .rintro i Z H' N hN hi ⟨v,rfl,s1,h1⟩;have hb:=ha c i hcm hi;refine cA ?_;refine⟨_,rfl,_,rfl,_,_,rfl,rfl,.inl ⟨by lia,by lia⟩,_,_,rfl,rfl,(by show(0:Int)<97;decide),_,h1,by rw[aU];lia,?_⟩;exact hN _ _ ⟨_,rfl,s1.put hD,jU rfl⟩
 rintro Z H1 ⟨v,rfl,s1,h1⟩;refine⟨_,rfl,l,rfl,⟨_,s1.seq g1⟩,λD2 Bx=>?_⟩;have nDD:D≠D2:=aP h1 Bx
 let I2:Nat->_->_->Prop:=λi Z H'=>∃(v:Option V)(ps:Nat->JY),Z=[v,some (.ref D),some (.int c)]/\aI H1 H'/\H' D2=some (.lst (m8 i ps))/\∀k,k<i->aX K H' (ps k) (ii n λj=>(a k j-a k c*(a c j*VE%97))%97)/\ps k≠D2
 refine xC (K:=K) (a:=l) (n:=m) (F:=λi=>V.ref (as i)) I2
  ⟨none,as,rfl,(aI.refl _).new Bx,aB,λk hk=>by lia⟩ (λi Z H' _ h_=>by obtain⟨_,_,_,s2,_⟩:=h_;exact s2.seq (s1.seq g1)) ?_ ?_
 .rintro i Z H' N hN hi ⟨v,ps,rfl,s2,h2,hp⟩;have hb:=ha i c hi hcn;refine cA ?_;refine⟨_,rfl,_,rfl,_,rfl,_,rfl,as i,_,_,_,rfl,rfl,s2.seq (s1.seq (g2 i hi)),dO (by lia) (by lia),as i,D,n,a i,(λj=>a c j*VE%97),_,rfl,s2.seq (s1.seq (g2 i hi)),aX.of (s2 _ _ h1),hn,?_,?_,λp H2 W0 s3 h3=>?_⟩
  .rw[ec];exact hb.1
  .rw[ec];exact hb.2
  have np:D2≠p:=aP h2 W0;refine⟨_,s3 _ _ h2,by rw[aU];lia,?_⟩;rw[xD];refine hN _ _ ⟨_,_,rfl,(s2.trans s3).put Bx,aB,λk hk=>?_⟩;by_cases e:k=i
  .subst e;simp only[iE];refine⟨aX.of ?_,bS np⟩;rw[aN (bS np),h3,ec]
  simp only[e,cm];obtain⟨q1,q2⟩:=hp k (by lia);refine⟨?_,q2⟩;rcases s3.seq q1 with(z|⟨o,z⟩)|z
  .exact .inl (.inl (by rw[aN q2];exact z))
  .exact .inl (.inr ⟨o,by rw[aN q2];exact z⟩)
  exact .inr z
 rintro Z H' ⟨v,ps,rfl,s2,h2,hp⟩;refine⟨_,rfl,_,rfl,_,rfl,D2,_,_,_,rfl,rfl,h2,xB (by lia) (by lia),?_⟩;rw[vF (by lia),ec];refine⟨_,rfl,?_⟩;refine q D2 _ (s1.free Bx) ((s1.trans s2).put (s1.free Bx)) ⟨λk=>if k=c then D else ps k,aX.of ?_,λi hi=>?_⟩
 .rw[aB];refine az (λl=>some (HO.lst l)) (cR λk hk=>?_);by_cases e:k=c<;>simp[e]
 by_cases e:i=c
 .subst e;have e2:ii n (My.clear a i VE i)=ii n λj=>a i j*VE%97:=cR λj hj=>by unfold My.clear;rw[aL rfl]
  simp only[iE];rw[e2];exact aX.of (by rw[aN nDD];exact s2 _ _ h1)
 obtain⟨q1,q2⟩:=hp i hi;have e2:ii n (My.clear a c VE i)=ii n λj=>(a i j-a i c*(a c j*VE%97))%97:=cR λj hj=>by unfold My.clear;rw[aK e]
 simp only[e,cm];rw[e2];rcases q1 with(z|⟨o,z⟩)|z
 .exact .inl (.inl (by rw[aN q2];exact z))
 .exact .inl (.inr ⟨o,by rw[aN q2];exact z⟩)
 exact .inr z
def jC(n:Nat)(a:My.qq)(b:Nat->Int):My.qq:=λi j=>(if j<n then a i j else b i)%97
def Mq(n:Nat)(a:My.qq)(b:Nat->Int)(z:Nat->Int)(i:Nat):(97:Int) ∣ My.ip (n+1) (jC n a b i) z-(My.ip n (a i) z+b i*z n):=by
 have h1:My.ip (n+1) (jC n a b i) z=My.ip n (jC n a b i) z+jC n a b i n*z n:=by unfold My.ip;rw[My.å]
 have h2:(97:Int) ∣ My.ip n (jC n a b i) z-My.ip n (a i) z:=My.Hy λj hj=>by unfold jC;rw[aL hj];exact My.gz _
 have h3:(97:Int) ∣ jC n a b i n*z n-b i*z n:=by
  have:(97:Int) ∣ (jC n a b i n-b i)*z n:=jt (by unfold jC;rw[aK (gR n)];exact My.gz _) (Dl _ _)
  rwa [Int.sub_mul]at this
 rw[h1];have:=wm h2 h3
 rwa [show My.ip n (jC n a b i) z-My.ip n (a i) z+(jC n a b i n*z n-b i*z n)=My.ip n (jC n a b i) z+jC n a b i n*z n-(My.ip n (a i) z+b i*z n) by lia]at this
def BD{n:Nat}{a:My.qq}{b:Nat->Int}:My.uJ n (n+1) (jC n a b) z↔∀i,i<n->(97:Int) ∣ My.ip n (a i) z+b i*z n:=by
 constructor
 .intro k i hi;have:=gU (k i hi) (Mq n a b z i)
  rwa [show My.ip (n+1) (jC n a b i) z-(My.ip (n+1) (jC n a b i) z-(My.ip n (a i) z+b i*z n))=My.ip n (a i) z+b i*z n by lia]at this
 intro k i hi;have:=wm (k i hi) (Mq n a b z i)
 rwa [show My.ip n (a i) z+b i*z n+(My.ip (n+1) (jC n a b i) z-(My.ip n (a i) z+b i*z n))=My.ip (n+1) (jC n a b i) z by lia]at this
def QZ(n:Nat)(r z:Nat->Int)(u:Int):My.ip n r (λj=>if j<n then z j else u)=My.ip n r z:=My.bP n λj hj=>by simp[hj]
def Tu{n c:Nat}{a:My.qq}{b:Nat->Int}{u:My.qq}(hk:∀z,My.uJ n (n+1) u z↔My.uJ n (n+1) (jC n a b) z)(h:My.Clear n c u)(hc:c<n)(hz:∀i,c<=i->i<n->u i c=0):¬My.Hz n a:=by obtain⟨z,k,z1,z2⟩:=h.stuck hc hz;intro r;have k2:=BD.mp ((hk z).mp k);have:=r z (λi hi=>by have:=k2 i hi;rw[z2]at this;simpa using this) c hc;rw[z1]at this;lia
def LS{n:Nat}{a:My.qq}{b:Nat->Int}{u:My.qq}(hk:∀z,My.uJ n (n+1) u z↔My.uJ n (n+1) (jC n a b) z)(h:My.Clear n n u):My.Hz n a/\∀i,i<n->(97:Int) ∣ My.ip n (a i) (λj=>u j n)-b i:=by
 constructor
 .intro z k j hj;have k2:My.uJ n (n+1) (jC n a b) (λj=>if j<n then z j else 0):=BD.mpr λi hi=>by rw[QZ];simp only[gR,cm,Int.mul_zero,Int.add_zero];exact k i hi
  have k3:=(hk _).mpr k2 j hj;rw[h.full _ j hj]at k3
  simpa[hj]using k3
 intro i hi;have k1:My.uJ n (n+1) u (λj=>if j<n then-u j n else 1):=λi hi=>by rw[h.full _ i hi];simp only[hi,iE,gR,cm];exact⟨0,by lia⟩
 have k2:=BD.mp ((hk _).mp k1) i hi;rw[QZ]at k2;simp only[gR,cm,Int.mul_one]at k2;have e:My.ip n (a i) (λj=>- u j n)=- My.ip n (a i) (λj=>u j n):=by have:=My.xK (-1) (λj=>a i j*u j n) n;unfold My.ip;rw[show My.å n (λj=>a i j * - u j n)=My.å n (λj=>-1*(a i j*u j n))from My.bP n λj _=>by grind,this];show -1*My.å n (λj=>a i j*u j n)=- My.å n (λj=>a i j*u j n);lia
 rw[e]at k2;have:=Int.dvd_neg.mpr k2
 rwa [show -(-My.ip n (a i) (λj=>u j n)+b i)=My.ip n (a i) (λj=>u j n)-b i by lia]at this
def Qa{m n c:Nat}{a:My.qq}{f:Int}:∀i j,i<m->j<n->0<=My.clear a c f i j/\My.clear a c f i j<97:=λi j _ _=>by unfold My.clear;split<;>exact⟨gn _ (by decide),gQ _ (by decide)⟩
def Tv{m n p q:Nat}{a:My.qq}(hp:p<m)(hq:q<m)(h:∀i j,i<m->j<n->0<=a i j/\a i j<97):∀i j,i<m->j<n->0<=My.swap a p q i j/\My.swap a p q i j<97:=λi j hi hj=>by
 unfold My.swap;split
 .exact h q j hq hj
 split
 .exact h p j hp hj
 exact h i j hi hj
inductive xY(K:Ni)(vs:List V)(H:Hp)(Q:VK)(_:XK):Prop
 |mk (l r:JY) (n:Nat) (a:My.qq) (b:Nat->Int) (_:vs=[.ref l,.ref r]) (_:Ed K H l n n a) (_:aX K H r (ii n b)) (_:n<=100) (_:(My.Hz n a->∀p H' x,H p=none->aI H H'->H' p=some (.lst (ii n x))->(∀i,i<n->0<=x i/\x i<97)->(∀i,i<n->(97:Int) ∣ My.ip n (a i) x-b i)->Q (.ref p) H')) (_:(¬My.Hz n a->∀H',aI H H'->Q .cX H'))
def jk:aM ["rows","right","table","column","place"] ["rows","right"] (aH vT):=ac
def OL(F:aY K mg "solved" vT)(T:Txt K mg t)(uV:ã P w K mg à 1 "equation" ["row","side"] (yM K))(lT:ã P w K mg à 1 "pivot_place" ["table","column"] (qC K))(qE:ã P w K mg à 1 "exchanged" ["table","one","other"] (vd K))(xZ:ã P w K mg à 5 "cleared" ["table","column"] (BC K)):ã P w K mg à 6 "solved" ["rows","right"] (xY K):=by
 refine F.eY jk λf bM A á s H vs Q E hr h=>?_;obtain⟨l,r,n,a,b,rfl,⟨as,g1,g2⟩,IX,hn,q1,q2⟩:=h;refine⟨_,aC (vD (i:=2) jk.nd rfl (Or.inl rfl) rfl (Nc:=["row","side"]) (ix:=[none,none]) (iG (aH vT) ["rows","right","table","column","place"] rfl rfl (by decide +kernel)) (vP K (by rfl) T.IM (aA (pv 0) (aA (pv 1) aD))) (λC fp s H=>⟨(iS K (i:=0) (j:=1) rfl (show(["row","side"]:List Str).Nodup by decide +kernel) rfl rfl (Or.inl rfl) (Or.inl rfl)),bN,(aO uV hr (aA (pv 0) (aA (pv 1) aD)))⟩))
  (aC (cu (cq (by rfl) T.cw (aA (cv K T.cS (pv 2)) aD)) (bu 3 jk) (aC (aV 4 jk (aO lT hr (aA (pv 2) (aA (pv 3) aD))))
   (aC (ax (bI ER (pv 4) eC)
    (aE (aQ eC))
    (aW))
   (aE (aV 2 jk (aO xZ hr (aA (aO qE hr (aA (pv 2) (aA (pv 3) (aA (pv 4) aD)))) (aA (pv 3) aD))))))))
  (aE (aQ (j7 (Nc:=["row"]) (ix:=[none]) jk (bH K (pv 2)) (λC fp s H=>⟨bN,(ah (aZ K) (pv 0) (AN t9 aF))⟩))))),?_⟩
 have hsz:=bZ;refine⟨_,rfl,_,rfl,true,true,l,r,rfl,⟨_,g1⟩,⟨_,IX⟩,λD hD=>?_⟩
 let I3:Nat->_->_->Prop:=λi Z H'=>∃(v u:Option V)(ps:Nat->JY),Z=[v,u]/\aI H H'/\H' D=some (.lst (m8 i ps))/\∀k,k<i->H' (ps k)=some (.lst (ii (n+1) (jC n a b k)))/\ps k≠D
 refine Er (K:=K) (a:=l) (b:=r) (xs:=m8 n as) (ys:=ii n b) (by rw[aU,aU]) I3
  ⟨none,none,as,rfl,(aI.refl _).new hD,aB,λk hk=>by lia⟩ (λi Z H' _ h_=>by obtain⟨_,_,_,_,s1,_⟩:=h_;exact⟨s1.seq g1,s1.seq IX⟩) ?_ ?_
 .rintro i x y pt Z H' N hN hx hy ⟨v,u,ps,rfl,s1,h1,hp⟩ hpt;obtain⟨hi,rfl⟩:=ø hx;obtain⟨_,rfl⟩:=ø hy;refine AZ ?_;have nD:D≠pt:=aP h1 hpt;have st:=(aI.refl H').new (o:=.tup [V.ref (as i),V.int (b i)]) hpt;refine⟨_,rfl,_,rfl,as i,n,a i,b i,rfl,st.seq (s1.seq (g2 i hi)),by lia,λp H2 W0 s2 h2=>?_⟩;have s3:=st.trans s2;have np:D≠p:=aP (st _ _ h1) W0;refine⟨_,s3 _ _ h1,by rw[aU];lia,?_⟩;rw[xD];refine hN _ _ ⟨_,_,_,rfl,(s1.trans s3).put hD,aB,λk hk=>?_⟩;by_cases e:k=i
  .subst e;simp only[iE];exact⟨by rw[aN (bS np),h2];rfl,bS np⟩
  simp only[e,cm];obtain⟨z1,z2⟩:=hp k (by lia);exact⟨by rw[aN z2];exact s3 _ _ z1,z2⟩
 rintro Z H1 ⟨v,u,ps,rfl,s1,h1,hp⟩;rw[aU]at h1 hp;have G0:Ed K H1 D n (n+1) (jC n a b):=⟨ps,aX.of h1,λi hi=>aX.of (hp i hi).1⟩;refine⟨_,rfl,D,_,rfl,.inl (aX.of h1),_,rfl,by lia,by rw[aU];lia,?_⟩;have en:(((m8 n ps).length:Nat):Int).toNat=n:=by rw[aU,dh]
 rw[en]
 let I4:Nat->_->_->Prop:=λc Z H'=>∃(v v':Option V)(l':JY)(u:My.qq),Z=[some (.ref l),some (.ref r),some (.ref l'),v,v']/\aI H1 H'/\Ed K H' l' n (n+1) u/\(∀i j,i<n->j<n+1->0<=u i j/\u i j<97)/\My.Clear n c u/\∀z,My.uJ n (n+1) u z↔My.uJ n (n+1) (jC n a b) z
 refine gY (lo:=0) (n:=n) I4
  ⟨none,none,D,jC n a b,rfl,aI.refl _,G0,λi j _ _=>⟨gn _ (by decide),gQ _ (by decide)⟩,My.Clear.start _ _,λz=>Iff.rfl⟩ ?_ ?_
 .rintro c Z H' hc ⟨v,v',l',u,rfl,s2,G,hu,Rr,hk⟩;have e0:(0:Int)+(c:Nat)=((c:Nat):Int):=by lia
  rw[e0];refine⟨_,rfl,_,rfl,l',n,n+1,c,u,rfl,G,by lia,by lia,by lia,by lia,λp GQ uE Oq _=>?_,λhz=>?_⟩
  .refine⟨_,rfl,rfl,_,rfl,eT (λz=>nomatch z) ?_⟩
   refine⟨_,rfl,_,rfl,_,rfl,l',n,n+1,c,p,u,rfl,G,hc,uE,by lia,λx1 H2 hx1 s3 G2=>?_⟩;have Xe:My.swap u c p c c=u p c:=(by unfold My.swap;rw[aL rfl]);have uk:=Tv (n:=n+1) hc uE hu;have Tw:=uk c c hc (by lia);refine⟨_,rfl,x1,n,n+1,c,My.swap u c p,rfl,G2,hc,by lia,by lia,by lia,uk,by rw[Xe];exact Oq,λx2 H3 Uw s4 G3=>?_⟩;have hinv:(97:Int) ∣ My.P (My.swap u c p c c) 95*My.swap u c p c c-1:=by have:=My.VA (a:=My.swap u c p c c) (by rw[Xe]at *;lia) Tw.2;lia
   exact⟨_,_,x2,_,rfl,s2.trans (s3.trans s4),G3,Qa,(Rr.swap GQ uE).clear hc hinv,λz=>(My.uJ.clear hc hinv).trans ((My.uJ.swap hc uE).trans (hk z))⟩
  refine⟨_,rfl,rfl,_,rfl,fe rfl ?_⟩;exact q2 (Tu hk Rr hc hz) H' (s1.trans s2)
 rintro Z H' ⟨v,v',l',u,rfl,s2,⟨bs,G1,G2⟩,hu,Rr,hk⟩;obtain⟨Tx,aC2⟩:=LS hk Rr;refine⟨_,rfl,l',rfl,⟨_,G1⟩,λD2 Bx=>?_⟩
 let I5:Nat->_->_->Prop:=λi Z H2=>∃v:Option V,Z=[v]/\aI H' H2/\H2 D2=some (.lst (ii i λk=>u k n))
 refine xC (K:=K) (a:=l') (n:=n) (F:=λi=>V.ref (bs i)) I5 ⟨none,rfl,(aI.refl _).new Bx,aB⟩ (λi Z H' _ ⟨_,_,s1,_⟩=>s1.seq G1) ?_ ?_
 .rintro i Z H2 N hN hi ⟨v,rfl,s3,h3⟩;refine cA ?_;refine⟨_,rfl,_,rfl,_,_,_,_,rfl,rfl,s3.seq (G2 i hi),Pd,_,h3,by rw[aU];lia,?_⟩;exact hN _ _ ⟨_,rfl,s3.put Bx,jU rfl⟩
 rintro Z H2 ⟨v,rfl,s3,h3⟩;have Zl:=(s1.trans s2);exact q1 Tx D2 H2 _ (Zl.free Bx) (Zl.trans s3) h3 (λi hi=>hu i n hi (by lia)) aC2
inductive r9(K:Ni)(vs:List V)(H:Hp)(Q:VK)(_:XK):Prop
 |mk (l:JY) (s:Nat->Int) (_:vs=[.ref l]) (_:aX K H l (ii 6 s)) (_:(∀j,j<6->0<=s j/\s j<97)) (_:∀p H',H p=none->aI H H'->H' p=some (.lst ((My.pG s).map λk=>V.int (k:Nat)))->Q (.ref p) H')
def sL:aM ["sums","place"] ["sums"] (aH nJ):=ac
def CC(F:aY K mg "lone_place" nJ)(T:Txt K mg t)(uW:ã P w K mg à 4 "exponent" ["a"] yJ)(jj:ã P w K mg à 4 "inverse" ["a"] uS):ã P w K mg à 5 "lone_place" ["sums"] (r9 K):=by
 refine F.eY sL λf bM A á s H vs Q E hr h=>?_;obtain⟨l,s,rfl,hl,bs,q⟩:=h;refine⟨_,aC (ax (PW.pt (kX (bI jN (ah (aZ K) (pv 0) aF) aF) (jx (bI jN (ah (aZ K) (pv 0) aF) aF))))
   (aE (aQ (bJ aD)))
   (aW))
  (aC (aV 1 sL (aO uW hr (aA (aT cO (aT dM (ah (aZ K) (pv 0) aF) (aO jj hr (aA (ah (aZ K) (pv 0) aF) aD))) (aR T.dQ)) aD)))
  (aE (aQ (uw (bI kZ (pv 1) (aR T.FE)) (bJ (aA (pv 1) aD)) (bJ aD))))),?_⟩
 have b0:=bs 0 (by decide);have b1:=bs 1 (by decide);have a0:rH (ii 6 s) 0=some (V.int (s 0)):=dO (n:=6) (by decide) (by decide);have a1:rH (ii 6 s) 1=some (V.int (s 1)):=dO (n:=6) (by decide) (by decide);have q':∀p,H p=none->Q (.ref p) (ü H p (.lst ((My.pG s).map λk=>V.int (k:Nat)))):=λp hp=>q p _ hp ((aI.refl _).new hp) aB;refine⟨_,rfl,l,_,_,_,rfl,rfl,hl,a0,rfl,_,rfl,?_⟩;by_cases z0:s 0=0
 .refine fe (by rw[z0]) (ig ?_);refine⟨ñ,λp hp=>?_⟩;have:=q' p hp
  rwa [My.pG,aL (.inl z0)]at this
 refine eT (λe=>z0 (V.int.inj e)) ?_;refine⟨_,rfl,l,_,_,_,rfl,rfl,hl,a1,rfl,_,rfl,?_⟩;by_cases z1:s 1=0
 .refine fe (by rw[z1]) ?_;refine⟨ñ,λp hp=>?_⟩;have:=q' p hp
  rwa [My.pG,aL (.inr z1)]at this
 refine eT (λe=>z1 (V.int.inj e)) ?_;have hinv:=My.OB (a:=s 0) (by lia) b0.2;have Zm:=My.Wj (s 0) 95;have hv:=My.Wm (a:=s 1) (b:=My.P (s 0) 95) (by lia) b1.2 hinv Zm;have Tz:s 1*My.P (s 0) 95%97<97:=gQ _ (by decide);refine⟨_,rfl,l,_,_,_,rfl,rfl,hl,a1,_,rfl,l,_,_,_,rfl,rfl,hl,a0,s 0,rfl,⟨by lia,b0.2⟩,?_⟩;refine⟨_,_,rfl,rfl,.inl ⟨by lia,by lia⟩,_,_,rfl,rfl,(by show(0:Int)<97;decide),_,rfl,⟨hv,Tz⟩,?_⟩;have e0:=My.QF (s 1*My.P (s 0) 95%97);refine⟨_,rfl,_,_,rfl,rfl,_,rfl,?_⟩;by_cases hp:My.ex (s 1*My.P (s 0) 95%97)<24
 .refine fe hp ?_;refine⟨_,rfl,ò,λp W0=>?_⟩;have:=q' p W0;rw[My.pG,aK (by lia),aL hp]at this;have e1:[V.int (My.ex (s 1*My.P (s 0) 95%97))]=([(My.ex (s 1*My.P (s 0) 95%97)).toNat].map λk=>V.int (k:Nat)):=by show _=[V.int (((My.ex (s 1*My.P (s 0) 95%97)).toNat:Nat):Int)];rw[Df e0]
  rw[e1];exact this
 refine eT hp ?_;refine⟨ñ,λp W0=>?_⟩;have:=q' p W0
 rwa [My.pG,aK (by lia),aK hp]at this
def BE:Sp:=λvs H Q _=>∃x t u:Int,vs=[.int x,.int t,.int u]/\0<=x/\x<97/\0<=t/\t<97/\Q (.bl (decide ((x*x-t*x+u)%97=0))) H
def LU:aM ["point","total","product"] ["point","total","product"] (aH xQ):=ac
def LV(F:aY K mg "is_root" xQ)(T:Txt K mg t):ã P w K mg à 1 "is_root" ["point","total","product"] BE:=by refine F.eY LU λf bM A á s H vs Q E hr h=>?_;obtain⟨x,tt,u,rfl,x0,x1,t0,t1,q⟩:=h;refine⟨_,aE (aQ (dY jN (aT cO (aT bT (aT o4 (aT dM (pv 0) (pv 0)) (aT dM (pv 1) (pv 0))) (pv 2)) (aR T.dQ)) aF (iF _))),?_⟩;refine⟨_,rfl,_,rfl,_,_,rfl,rfl,.inl ⟨by lia,by lia⟩,_,rfl,_,rfl,_,_,rfl,rfl,.inl ⟨by lia,by lia⟩,_,_,rfl,rfl,_,rfl,_,_,rfl,rfl,_,_,rfl,rfl,(by show(0:Int)<97;decide),rfl,?_⟩;have e:decide (V.int ((x*x-tt*x+u)%97)=V.int 0)=decide ((x*x-tt*x+u)%97=0):=decide_eq_decide.mpr ⟨λh=>V.int.inj h,λh=>by rw[h]⟩;show Q (.bl (decide (V.int ((x*x-tt*x+u)%97)=V.int 0))) H;rw[e];exact q
inductive mO(K:Ni)(vs:List V)(H:Hp)(Q:VK)(_:XK):Prop
 |mk (l:JY) (s:Nat->Int) (_:vs=[.ref l]) (_:aX K H l (ii 6 s)) (_:(∀j,j<6->0<=s j/\s j<97)) (_:∀p H' ps,H p=none->aI H H'->H' p=some (.lst (ps.map λk=>V.int (k:Nat)))->My.QO s ps->Q (.ref p) H')
def fO:aM ["sums","rows","pair"] ["sums"] (aH jA):=ac
def xa(F:aY K mg "turned_places" jA)(T:Txt K mg t)(mP:ã P w K mg à 6 "solved" ["rows","right"] (xY K))(n6:ã P w K mg à 5 "lone_place" ["sums"] (r9 K))(xb:ã P w K mg à 1 "is_root" ["point","total","product"] BE)(gH:ã P w K mg à 3 "power" ["a","k"] pq):ã P w K mg à 7 "turned_places" ["sums"] (mO K):=by
 refine F.eY fO λf bM A á s H vs Q E hr h=>?_;obtain⟨l,s,rfl,hl,bs,q⟩:=h;refine⟨_,aC (aV 1 fO (bJ (aA (bJ (aA (ah (aZ K) (pv 0) aF) (aA (aT cO (AN t9 (ah (aZ K) (pv 0) aF)) (aR T.dQ)) aD))) (aA (bJ (aA (ah (aZ K) (pv 0) aF) (aA (aT cO (AN t9 (ah (aZ K) (pv 0) aF)) (aR T.dQ)) aD))) aD))))
  (aC (aV 2 fO (aO mP hr (aA (pv 1) (aA (bJ (aA (ah (aZ K) (pv 0) aF) (aA (ah (aZ K) (pv 0) aF) aD))) aD))))
  (aC (ax (bI ER (pv 2) eC)
   (aE (aQ (aO n6 hr (aA (pv 0) aD))))
   (aW))
  (aE (aQ (j7 (Nc:=["place","pair"]) (ix:=[none,some 2]) fO (cq (by rfl) T.cw (aA (aR T.FE) aD)) (λC fp s H=>⟨(zA (fX (aO xb hr (aA (aO gH hr (aA (aR T.Mn) (aA (pv 0) aD))) (aA (ah (aZ K) (pv 1) aF) (aA (ah (aZ K) (pv 1) aF) aD)))))),(pv 0)⟩)))))),?_⟩
 have a0:rH (ii 6 s) 0=some (V.int (s 0)):=dO (n:=6) (by decide) (by decide);have a1:rH (ii 6 s) 1=some (V.int (s 1)):=dO (n:=6) (by decide) (by decide);have a2:rH (ii 6 s) 2=some (V.int (s 2)):=dO (n:=6) (by decide) (by decide);have a3:rH (ii 6 s) 3=some (V.int (s 3)):=dO (n:=6) (by decide) (by decide);have b4:∀j,j<4->0<=s j/\s j<97:=λj hj=>bs j (by lia);refine⟨_,rfl,l,_,_,_,rfl,rfl,hl,a1,_,rfl,l,_,_,_,rfl,rfl,hl,a0,_,rfl,_,_,rfl,rfl,(by show(0:Int)<97;decide),ó,λr1 IX=>?_⟩;have s1:=(aI.refl H).new (o:=.lst [V.int (s 1),V.int (-(s 0)%97)]) IX;refine⟨_,rfl,l,_,_,_,rfl,rfl,s1.seq hl,a2,_,rfl,l,_,_,_,rfl,rfl,s1.seq hl,a1,_,rfl,_,_,rfl,rfl,(by show(0:Int)<97;decide),ó,λr2 wN=>?_⟩;have s2:=s1.new (o:=.lst [V.int (s 2),V.int (-(s 1)%97)]) wN;refine⟨ó,λr3 Xo=>?_⟩;have s3:=s2.new (o:=.lst [V.ref r1,V.ref r2]) Xo;have e1:(ü (ü (ü H r1 (.lst [V.int (s 1),V.int (-(s 0)%97)])) r2 (.lst [V.int (s 2),V.int (-(s 1)%97)])) r3 (.lst [V.ref r1,V.ref r2])) r1=some (.lst [V.int (s 1),V.int (-(s 0)%97)]):=by have z:r1≠r2:=aP aB wN;rw[aN (aP (by rw[aN z];exact aB) Xo),aN z];exact aB
 have e2:(ü (ü (ü H r1 (.lst [V.int (s 1),V.int (-(s 0)%97)])) r2 (.lst [V.int (s 2),V.int (-(s 1)%97)])) r3 (.lst [V.ref r1,V.ref r2])) r2=some (.lst [V.int (s 2),V.int (-(s 1)%97)]):=by rw[aN (aP aB Xo)];exact aB
 have e3:(ü (ü (ü H r1 (.lst [V.int (s 1),V.int (-(s 0)%97)])) r2 (.lst [V.int (s 2),V.int (-(s 1)%97)])) r3 (.lst [V.ref r1,V.ref r2])) r3=some (.lst [V.ref r1,V.ref r2]):=aB;generalize ü (ü (ü H r1 (.lst [V.int (s 1),V.int (-(s 0)%97)])) r2 (.lst [V.int (s 2),V.int (-(s 1)%97)])) r3 (.lst [V.ref r1,V.ref r2])=H3 at *;refine⟨_,rfl,_,rfl,l,_,_,_,rfl,rfl,s3.seq hl,a2,_,rfl,l,_,_,_,rfl,rfl,s3.seq hl,a3,ó,λr4 hr4=>?_⟩;have s4:=(aI.refl H3).new (o:=.lst [V.int (s 2),V.int (s 3)]) hr4;have G:Ed K (ü H3 r4 (.lst [V.int (s 2),V.int (s 3)])) r3 2 2 (My.M s):=by
  refine⟨λi=>if i=0 then r1 else r2,aX.of (s4 _ _ e3),λi hi=>?_⟩
  match i,hi with
  |0,_=>exact aX.of (s4 _ _ e1)
  |1,_=>exact aX.of (s4 _ _ e2)
 refine⟨r3,r4,2,My.M s,λi=>s (i+2),rfl,G,aX.of aB,by decide,λreg p5 H5 x hp5 s5 h5 bx hx=>?_,λreg H5 s5=>?_⟩
 .refine⟨_,rfl,rfl,_,rfl,eT (λz=>nomatch z) ?_⟩
  have sA:=(s3.trans s4).trans s5;refine⟨24,rfl,by decide,by decide,λD hD=>?_⟩;refine SV (n:=24) (by decide) (b:=My.Mj (x 0) (x 1)) hD (λi H6 N hi s6 hn=>?_) (λi H6 N hi hn=>⟨_,rfl,hn⟩) λH6 s6 h6=>?_
  .have Zn:=bx 0 (by decide);refine⟨_,rfl,5,_,rfl,by lia,by decide,?_⟩;refine⟨_,rfl,p5,_,_,_,rfl,rfl,aX.of (s6 _ _ h5),dO (n:=2) (by decide) (by decide),_,rfl,p5,_,_,_,rfl,rfl,aX.of (s6 _ _ h5),dO (n:=2) (by decide) (by decide),_,_,_,rfl,My.ZV _ _,My.Wj _ _,Zn.1,Zn.2,_,rfl,?_⟩;have e0:(0:Int)+(i:Nat)=(i:Nat):=(by lia);rw[e0];exact hn H6 (aI.refl _)
  exact q D H6 _ (sA.free hD) (sA.trans s6) h6 (My.QP reg hx)
 refine⟨_,rfl,rfl,_,rfl,fe rfl ?_⟩;have sA:=(s3.trans s4).trans s5;refine⟨_,rfl,l,s,rfl,sA.seq hl,bs,λp6 H6 hp6 s6 h6=>?_⟩;exact q p6 H6 _ (sA.free hp6) (sA.trans s6) h6 (My.Td b4 reg)
inductive yP(K:Ni)(vs:List V)(H:Hp)(Q:VK)(_:XK):Prop
 |mk (l r:JY) (ps:List Nat) (s:Nat->Int) (_:vs=[.ref l,.ref r]) (_:H l=some (.lst (ps.map λk=>V.int (k:Nat)))) (_:aX K H r (ii 6 s)) (_:ps.Nodup) (_:(∀p∈ps,p<24)) (_:ps.length<=2) (_:∀p H' x,H p=none->aI H H'->H' p=some (.lst (ii ps.length x))->(∀i,i<ps.length->0<=x i/\x i<97)->(∀i,i<ps.length->(97:Int) ∣ My.ip ps.length (λq=>My.P 5 ((ps.getD q 0:Nat)*(1+(i:Int)))) x-s i)->Q (.ref p) H')
def yQ:aM ["places","sums","rows"] ["places","sums"] (aH nK):=ac
def IY(F:aY K mg "turns_at" nK)(T:Txt K mg t)(mP:ã P w K mg à 6 "solved" ["rows","right"] (xY K))(gH:ã P w K mg à 3 "power" ["a","k"] pq):ã P w K mg à 7 "turns_at" ["places","sums"] (yP K):=by
 refine F.eY yQ λf bM A á s H vs Q E hr h=>?_;obtain⟨l,r,ps,s,rfl,hl,IX,nd,hb,wM,q⟩:=h;refine⟨_,aC (vD (i:=2) yQ.nd rfl (Or.inl rfl) rfl (Nc:=["j","places"]) (ix:=[none,some 0]) (iG (aH nK) ["places","sums","rows"] rfl rfl (by decide +kernel)) (wx (by rfl) T.cw (aA aF (aA (aT bT (cv K T.cS (pv 0)) aF) aD))) (λC fp s H=>⟨(gs (i:=0) (show(["j","places"]:List Str).Nodup by decide +kernel) rfl (Or.inr rfl)),bN,(AW rfl (Nc:=["place","j"]) (ix:=[none,some 0]) (iG _ ["j","places"] rfl rfl (by kernel_rfl)) (bH K (pv 1)) (λC fp s H=>⟨(gs (i:=0) (show(["place","j"]:List Str).Nodup by decide +kernel) rfl (Or.inl rfl)),bN,(aO gH hr (aA (aR T.Mn) (aA (aT dM (pv 0) (pv 1)) aD)))⟩))⟩))
  (aE (aQ (aO mP hr (aA (pv 2) (aA (cP (cU K) (pv 1) jS (bj (cv K T.cS (pv 0)))) aD))))),?_⟩
 have hsz:=bZ;rw[Gn]at hl;generalize hn:ps.length=n at *;have hg:∀q,q<n->((ps.getD q 0:Nat):Int)<24:=λq hq=>by have:=hb (ps.getD q 0) (by rw[My.getD_get (by lia)];exact jJ _);lia
 refine⟨_,rfl,l,_,rfl,.inl (aX.of hl),_,_,rfl,rfl,1,_,rfl,⟨by decide,by decide,by rw[aU];lia,by rw[aU];lia⟩,λD3 hD3=>?_⟩;rw[show((((ii n λq=>((ps.getD q 0:Nat):Int)).length:Nat):Int)+1-1).toNat=n by rw[aU];lia];refine j3 (lo:=1) (n:=n) (λj Z Hf=>∃(v:Option V)(rs:Nat->JY),Z=[v,some (.ref l)]/\aI H Hf/\Hf D3=some (.lst (m8 j rs))/\∀y,y<j->Hf (rs y)=some (.lst (ii n λq=>My.P 5 ((ps.getD q 0:Nat)*(1+(y:Int)))))/\rs y≠D3)
  ⟨none,λ_=>0,rfl,(aI.refl _).new hD3,aB,λy hy=>by lia⟩ ?_ ?_
 .rintro j Z Hf N hN hj ⟨v,rs,rfl,sf,T1,W1⟩;refine cA ?_;refine⟨_,rfl,l,rfl,⟨_,aX.of (sf _ _ hl)⟩,λD4 hD4=>?_⟩;have n34:D3≠D4:=aP T1 hD4;refine xC (K:=K) (a:=l) (n:=n) (F:=λq=>V.int ((ps.getD q 0:Nat):Int)) (λy Z Hg=>∃v:Option V,Z=[v,some (.int (1+(j:Int)))]/\aI Hf Hg/\Hg D4=some (.lst (ii y λq=>My.P 5 ((ps.getD q 0:Nat)*(1+(j:Int))))))
   ⟨none,rfl,(aI.refl _).new hD4,aB⟩ (λy Z Hg _ ⟨_,_,sg,_⟩=>aX.of (sg _ _ (sf _ _ hl))) ?_ ?_
  .rintro y Z Hg N2 hN2 hy ⟨v,rfl,sg,W2⟩;refine cA ?_;have hb:=hg y hy;refine⟨_,rfl,_,rfl,_,_,rfl,rfl,.inl ⟨by lia,by lia⟩,5,_,rfl,Int.mul_nonneg (by lia) (by lia),by decide,?_⟩;refine⟨_,W2,by rw[aU];lia,?_⟩;exact hN2 _ _ ⟨_,rfl,sg.put hD4,jU rfl⟩
  rintro Z Hg ⟨v,rfl,sg,W2⟩;refine⟨_,sg _ _ T1,by rw[aU];lia,?_⟩;rw[xD];refine hN _ _ ⟨_,_,rfl,(sf.trans sg).put hD3,aB,λy hy=>?_⟩;by_cases e:y=j
  .subst e;rw[aL rfl,aN (bS n34)];exact⟨W2,bS n34⟩
  rw[aK e];obtain⟨w1,w2⟩:=W1 y (by lia);rw[aN w2];exact⟨sg _ _ w1,w2⟩
 rintro Z Hf ⟨v,rs,rfl,sf,T1,W1⟩;refine⟨_,rfl,_,rfl,_,rfl,l,_,rfl,.inl (aX.of (sf _ _ hl)),_,rfl,r,_,rfl,sf.seq IX,λD5 hD5=>?_⟩;rw[aU,show dN (ii 6 s) none (some (n:Int))=ii n s from KZ (by lia)];have s5:=(aI.refl Hf).new (o:=.lst (ii n s)) hD5;have Tx:=My.Ml nd hb;rw[hn]at Tx;refine⟨D3,D5,n,(λi q=>My.P 5 ((ps.getD q 0:Nat)*(1+(i:Int)))),s,rfl,⟨rs,aX.of (s5 _ _ T1),λi hi=>aX.of (s5 _ _ (W1 i hi).1)⟩,aX.of aB,by lia,λ_ pa Hh x W3 sh hxa bx hxx=>?_,λh=>absurd Tx h⟩;have sA:=sf.trans s5;exact q pa Hh x (sA.free W3) (sA.trans sh) hxa bx hxx
inductive DI(K:Ni)(vs:List V)(H:Hp)(Q:VK)(_:XK):Prop
 |mk (l:JY) (f:Nat->Int) (_:vs=[.ref l]) (_:aX K H l (ii 24 f)) (_:IsCell 24 f) (_:(∀g p H',My.Az f g->H p=none->aI H H'->H' p=some (.lst (ii 24 g))->Q (.ref p) H')) (_:((∀g,¬My.Az f g)->∀H',aI H H'->Q .cX H'))
def T2{x:Nat->Int}{ps:List Nat}{k:Nat}(h:ps.getD k 0<24):(ii 24 (My.jW f ps x k)).set (ps.getD k 0) (V.int ((My.jW f ps x k (ps.getD k 0)-x k)%97))=ii 24 (My.jW f ps x (k+1)):=by rw[vF h];refine cR λj _=>?_;show _=V.int (if j=ps.getD k 0 then(My.jW f ps x k (ps.getD k 0)-x k)%97 else My.jW f ps x k j);split<;>rfl
def mQ:aM ["cell","sums","places","found","place","turn"] ["cell"] (aH A1):=ac
def OM(F:aY K mg "mended" A1)(T:Txt K mg t)(iL:ã P w K mg à 4 "troubles" ["cell"] (qA K))(qF:ã P w K mg à 5 "is_sealed" ["cell"] (vc K))(jD:ã P w K mg à 7 "turned_places" ["sums"] (mO K))(uX:ã P w K mg à 7 "turns_at" ["places","sums"] (yP K)):ã P w K mg à 8 "mended" ["cell"] (DI K):=by
 refine F.eY mQ λf bM A á s H vs Q E hr h=>?_;obtain⟨l,f,rfl,hl,cf,q1,q2⟩:=h;refine⟨_,aC (aV 1 mQ (aO iL hr (aA (pv 0) aD)))
  (aC (ax (bI (MP K (dU hr)) (pv 1) (aT KW (bJ (aA aF aD)) (aR T.Mo)))
   (aE (aQ (av (dB K) (by rfl) T.iI i7 (aA (pv 0) aD))))
   (aW))
  (aC (aV 2 mQ (aO jD hr (aA (pv 1) aD)))
  (aC (aV 3 mQ (av (dB K) (by rfl) T.iI i7 (aA (pv 0) aD)))
  (aC (cu (vP K (by rfl) T.IM (aA (pv 2) (aA (aO uX hr (aA (pv 2) (aA (pv 1) aD))) aD))) (iS K (i:=4) (j:=5) rfl mQ.nd rfl rfl (Or.inl rfl) (Or.inl rfl)) (aE (tm (aT cO (aT o4 (ah (aZ K) (pv 3) (pv 4)) (pv 5)) (aR T.dQ)) (tj (pv 3) (pv 4) set_list))))
  (aE (aQ (uw (fX (aO qF hr (aA (pv 3) aD))) (pv 3) eC))))))),?_⟩
 have mp:∀n (g:Nat->Int),ii n g=((List.range n).map g).map V.int:=λn g=>(m9 n g).symm;refine⟨_,rfl,l,f,rfl,hl,cf,λp1 H1 GQ s1 h1=>?_⟩;have bs:∀j,j<6->0<=My.T (My.St j) 24 f/\My.T (My.St j) 24 f<97:=λj _=>⟨My.aCx _ _ _,My.aCy _ _ _⟩;refine⟨_,rfl,ò,λa1 Tq=>?_⟩;refine⟨a1,_,_,rfl,rfl,aB,by decide,by decide,by decide,λa2 Tr=>?_⟩;have s2:=((aI.refl H1).new (o:=.lst [V.int 0]) Tq).new (o:=.lst (List.replicate (6:Int).toNat [V.int 0]).flatten) Tr;have h12:=s2 _ _ h1;refine⟨p1,a2,(List.range 6).map λj=>My.T (My.St j) 24 f,(List.range 6).map λ_=>0,rfl,rfl,aX.of (by rw[<-mp];exact h12),aX.of (by rw[aB];rfl),_,rfl,?_⟩;have sA:=s1.trans s2;generalize ü (ü H1 a1 (.lst [V.int 0])) a2 (.lst (List.replicate (6:Int).toNat [V.int 0]).flatten)=H2 at *;by_cases hz:(List.range 6).map (λj=>My.T (My.St j) 24 f)=(List.range 6).map λ_=>(0:Int)
 .refine fe hz ?_;have sl:My.dZ f:=kj.mp (by unfold qx;exact bw hz);refine⟨_,rfl,l,_,rfl,.inl (sA.seq hl),λp hp=>?_⟩;exact q1 f p _ (My.Az.self cf.b sl) (sA.free hp) (sA.new hp) aB
 refine eT hz ?_;have sl:¬My.dZ f:=λz=>hz (by have:=kj.mpr z;unfold qx at this;exact tM this);refine⟨_,rfl,p1,_,rfl,aX.of h12,bs,λp3 H3 ps Oq s3 h3 pl=>?_⟩;have sB:=sA.trans s3;refine⟨_,rfl,l,_,rfl,.inl (sB.seq hl),λp4 T4=>?_⟩;have s4:=(aI.refl H3).new (o:=.lst (ii 24 f)) T4;have h4:=@aB H3 p4 (.lst (ii 24 f));have h34:=s4 _ _ h3;have h14:=s4 _ _ (s3 _ _ h12);generalize hH4:ü H3 p4 (.lst (ii 24 f))=H4 at *;refine⟨_,rfl,_,rfl,_,rfl,p3,p1,ps,_,rfl,h34,aX.of h14,pl.nd,pl.b,pl.wM,λp5 H5 x hp5 s5 h5 bx hx=>?_⟩;have h35:=s5 _ _ h34;rw[Gn]at h35;have n45:p4≠p5:=aP h4 hp5;refine⟨true,true,p3,p5,rfl,⟨_,aX.of h35⟩,⟨_,aX.of h5⟩,?_⟩;have f3:H3 p4=none:=T4;have n43:p3≠p4:=aP h3 f3;refine Hk (K:=K) (u:=true) (v:=true) (a:=p3) (b:=p5) (xs:=ii ps.length λq=>((ps.getD q 0:Nat):Int)) (ys:=ii ps.length x) _ (ae _) (by rw[aU,aU];exact ae _) (.inl (ae _))
  (λk Z H6=>∃v1 v2:Option V,Z=[some (.ref l),some (.ref p1),some (.ref p3),some (.ref p4),v1,v2]/\aI H3 H6/\H6 p4=some (.lst (ii 24 (My.jW f ps x k)))/\H6 p3=some (.lst (ii ps.length λq=>((ps.getD q 0:Nat):Int)))/\H6 p5=some (.lst (ii ps.length x)))
  ⟨none,none,rfl,s4.trans s5,s5 _ _ h4,h35,h5⟩ (λk Z H6 _ h_=>by obtain⟨_,_,_,_,_,z3,z5⟩:=h_;exact⟨aX.of z3,aX.of z5⟩) ?_ ?_
 .rintro k u v pp Z H6 hu hv ⟨v1,v2,rfl,s6,h6,z3,z5⟩ Wz;obtain⟨hk,rfl⟩:=ø hu;obtain⟨_,rfl⟩:=ø hv;have hg:ps.getD k 0<24:=pl.b _ (by rw[My.getD_get hk];exact jJ _);have np:p4≠pp:=aP h6 Wz;have n3:p3≠pp:=aP z3 Wz;have n5:p5≠pp:=aP z5 Wz;have h6':(ü H6 pp (.tup [V.int ((ps.getD k 0:Nat):Int),V.int (x k)])) p4=some (.lst (ii 24 (My.jW f ps x k))):=by rw[aN np];exact h6
  refine Pf (bO.of aB) ?_;refine⟨_,rfl,_,rfl,p4,_,_,_,rfl,rfl,aX.of h6',dO (by dsimp only;lia) (by dsimp only;lia),_,rfl,_,_,rfl,rfl,_,_,rfl,rfl,(by show(0:Int)<97;decide),_,rfl,_,rfl,p4,_,_,_,rfl,rfl,h6',xB (by dsimp only;lia) (by dsimp only;lia),?_⟩;dsimp only;rw[dh,T2 hg];refine⟨_,_,rfl,(s6.new Wz).put f3,aB,?_,?_⟩
  .rw[aN n43,aN n3];exact z3
  rw[aN (bS n45),aN n5];exact z5
 rintro Z H6 ⟨v1,v2,rfl,s6,h6,z3,z5⟩;rw[aU]at h6;have cfn:IsCell 24 (My.jW f ps x ps.length):=⟨My.QQ ps x cf.b ps.length⟩;have sC:=sB.trans s6;refine⟨_,rfl,p4,_,rfl,aX.of h6,cfn,λH7 s7=>⟨_,rfl,?_⟩⟩;by_cases hs:My.dZ (My.jW f ps x ps.length)
 .rw[kj.mpr hs];refine ig ?_;refine⟨_,rfl,?_⟩;exact q1 _ p4 H7 (My.LC cf.b pl.nd pl.wM hs) (sB.free f3) (sC.trans s7) (s7 _ _ h6)
 rw[LP hs];refine c9 ?_;refine q2 (λg hm=>hs ?_) H7 (sC.trans s7);exact hm.sealed.congr λi hi=>(My.LB cf.b hm sl pl hx i hi).symm
def km(h1:0<=lo)(h2:0<=hi):dN xs (some lo) (some hi)=(xs.drop lo.toNat).take (hi.toNat-lo.toNat):=by
 unfold dN;obtain⟨a,rfl⟩:=DV h1;obtain⟨b,rfl⟩:=DV h2;rw[HT.iQ,HT.iQ,dh,dh];by_cases h:a<=xs.length
 .rw[wW h];by_cases g:b<=xs.length
  .rw[wW g]
  rw[Ds (by lia),zV (by rw[mX];lia),zV (by rw[mX];lia)]
 rw[Ds (a:=a) (by lia),List.drop_length,DY (by lia),List.take_nil,List.take_nil]
def FU(h2:0<=hi):dN xs none (some hi)=xs.take hi.toNat:=by
 unfold dN;obtain⟨b,rfl⟩:=DV h2;rw[HT.iQ,HT.u4,dh,List.drop_zero,Nat.sub_zero];by_cases g:b<=xs.length
 .rw[wW g]
 rw[Ds (by lia),eV,zV (by lia)]
def zL(h1:0<=lo):dN xs (some lo) none=xs.drop lo.toNat:=by
 unfold dN;obtain⟨a,rfl⟩:=DV h1;rw[HT.iQ,HT.u4,dh];by_cases h:a<=xs.length
 .rw[wW h,zV (by rw[mX];lia)]
 rw[Ds (by lia),List.drop_length,DY (by lia),List.take_nil]
def cB(S:List JY)(H H':Hp):Prop:=∀b o,b∉S->H b=some o->H' b=some o
def cB.refl:cB S H H:=λ_ _ _ e=>e
def cB.trans(a:cB S H H')(b:cB S H' MW):cB S H MW:=λx o n e=>b x o n (a x o n e)
def cB.same(s:aI H H'):cB S H H':=λx o _ e=>s x o e
def cB.up{S':List JY}(a:cB S H H')(h:∀x∈S,x∈S'):cB S' H H':=λx o n e=>a x o (λz=>n (h x z)) e
def cB.upd{S:List JY}{H H':Hp}{p:JY}{o:HO}(m:cB S H H')(h:p∈S\/H p=none):cB S H (ü H' p o):=λb u n e=>by rw[aN (λz=>by rw[z]at n e;exact h.elim n λy=>by rw[y]at e;cases e)];exact m b u n e
def cB.of{a:JY}{o:HO}(m:cB S H H')(e:H a=some o)(n:a∉S):H' a=some o:=m a o n e
def dR(H:Hp)(as:List JY)(rows:List (List Int)):Prop:=as.length=rows.length/\∀(i:Nat)(a:JY)(r:List Int),as[i]?=some a->rows[i]?=some r->H a=some (.lst (r.map V.int))
def dR.get(h:dR H as rows)(hi:i<rows.length):∃a,as[i]?=some a/\H a=some (.lst (rows[i].map V.int)):=by
 have oW:i<as.length:=by rw[h.1];exact hi
 exact⟨as[i],cT oW,h.2 i _ _ (cT oW) (cT hi)⟩
def dR.snoc{a:JY}{r:List Int}(h:dR H as rows)(e:H a=some (.lst (r.map V.int))):dR H (as++[a]) (rows++[r]):=by
 refine⟨by rw[bV,bV,h.1];rfl,λi b s h1 h2=>?_⟩;by_cases hi:i<as.length
 .rw[wO hi]at h1;rw[wO (by rw[<-h.1];exact hi)]at h2;exact h.2 i b s h1 h2
 rw[zX (by lia)]at h1;rw[zX (by rw[<-h.1];lia),<-h.1]at h2;rcases hz:i-as.length with _|k
 .rw[hz]at h1 h2;cases h1;cases h2;exact e
 rw[hz]at h1;simp at h1
def dR.mods(h:dR H as rows)(m:cB S H H')(n:∀a∈as,a∉S):dR H' as rows :=
 ⟨h.1,λi a r h1 h2=>m a _ (n a (bL h1)) (h.2 i a r h1 h2)⟩
def dR.same{H H':Hp}{as:List JY}{rows:List (List Int)}(h:dR H as rows)(s:aI H H'):dR H' as rows:=h.mods (S:=[]) (cB.same s) λ_ _=>bE
def dR.nil:dR H [] []:=⟨rfl,λi a r h=>by simp at h⟩
def dR.some{H:Hp}{as:List JY}{rows:List (List Int)}(h:dR H as rows):∀a∈as,∃o,H a=Option.some o:=λa ha=>by
 obtain⟨i,hi,e⟩:=eU ha;have oW:i<rows.length:=by rw[<-h.1];exact hi
 exact⟨_,h.2 i a rows[i] (by rw[<-e];exact cT hi) (cT oW)⟩
def cB.seq{a:JY}(m:cB S H H')(h:aX K H a xs)(n:a∉S):aX K H' a xs:=by
 rcases h with(h|⟨o,h⟩)|h
 .exact .inl (.inl (m _ _ n h))
 .exact .inl (.inr ⟨o,m _ _ n h⟩)
 exact .inr h
def gI:Sp:=λvs H Q _=>∃n m:Int,vs=[.int n,.int m]/\0<=m/\m<=1000/\0<=n/\My.û m.toNat n=0/\∀p H',H p=none->aI H H'->H' p=some (.lst ((My.low m.toNat n).reverse.map V.int))->Q (.ref p) H'
def dw:aM ["number","many","signs","left","place"] ["number","many"] (aH j8):=ac
def yo(F:aY K mg "number_signs" j8)(T:Txt K mg t):ã P w K mg à 1 "number_signs" ["number","many"] gI:=by
 refine F.eY dw λf bM A á s H vs Q E hr h=>?_;obtain⟨n,m,rfl,m0,m1,n0,r0,q⟩:=h;refine⟨_,aC (aV 2 dw (bJ aD))
  (aC (aV 3 dw (pv 0))
  (aC (cu (cq (by rfl) T.cw (aA (pv 1) aD)) (bu 4 dw) (aC (bA (ff K oa xt xr fK (pv 2) (aA (aT cO (pv 3) (aR T.dQ)) aD)))
   (aE (aV 3 dw (aT y8 (pv 3) (aR T.dQ))))))
  (aC (ax (PW.pt (kX (bI kZ (pv 0) aF) (jx (bI x6 (pv 3) aF))))
   (aE (dP))
   (aW))
  (aE (aQ (mD rfl T.iI T.uR (pv 2))))))),?_⟩
 refine⟨ñ,λps hps=>?_⟩;refine⟨_,rfl,?_⟩;have hsz:=bZ;refine⟨_,rfl,m,rfl,by lia,by lia,gY (lo:=0) (n:=m.toNat) (λi Z H'=>∃x:Option V,Z=[some (.int n),some (.int m),some (.ref ps),some (.int (My.û i n)),x]/\aI H H'/\H' ps=some (.lst ((My.low i n).map V.int))) ⟨none,rfl,(aI.refl _).new hps,aB⟩ ?_ ?_⟩
 .rintro i Z H' hi ⟨x,rfl,s1,h1⟩;refine⟨_,rfl,.inl ⟨rfl,_,aX.of h1⟩,_,rfl,_,_,rfl,rfl,(by show(0:Int)<97;decide),ps,_,_,rfl,rfl,h1,by rw[aJ,My.Mm];lia,?_⟩;refine⟨_,rfl,_,_,rfl,rfl,⟨by decide,by decide⟩,?_⟩;refine⟨_,by rw[My.DG];rfl,s1.put hps,?_⟩;rw[aB,My.ID,bD];rfl
 rintro Z H' ⟨x,rfl,s1,h1⟩;refine⟨_,rfl,_,_,rfl,rfl,_,rfl,eT (by lia) ?_⟩;refine⟨_,rfl,_,_,rfl,rfl,_,rfl,eT (by lia) ?_⟩;refine⟨_,rfl,ps,_,rfl,aX.of h1,λp hp=>?_⟩;refine q p _ (s1.free hp) (s1.new hp) ?_;rw[aB,<-List.map_reverse]
inductive gJ(K:Ni)(vs:List V)(H:Hp)(Q:VK)(_:XK):Prop
 |mk (l:JY) (ns:List Int) (_:vs=[.ref l]) (_:aX K H l (ns.map V.int)) (_:(∀n∈ns,0<=n/\n<97)) (_:Q (.int (My.õ ns)) H)
def gK:aM ["signs","number","sign"] ["signs"] (aH j9):=ac
def yt(F:aY K mg "signs_number" j9)(T:Txt K mg t)(cx:ã P w K mg à 2 "look_sign" ["number"] jZ):ã P w K mg à 3 "signs_number" ["signs"] (gJ K):=by
 refine F.eY gK λf bM A á s H vs Q E hr h=>?_;obtain⟨l,ns,rfl,hl,ok,q⟩:=h;refine⟨_,aC (aV 1 gK aF)
  (aC (cu (bH K (pv 0)) (bu 2 gK) (aC (bA (aO cx hr (aA (pv 2) aD)))
   (aE (aV 1 gK (aT bT (aT dM (pv 1) (aR T.dQ)) (pv 2))))))
  (aE (aQ (pv 1)))),?_⟩
 refine⟨_,rfl,l,rfl,⟨_,hl⟩,dq (K:=K) (a:=l) (xs:=ns.map V.int) (λi Z H'=>∃x:Option V,Z=[some (.ref l),some (.int (My.õ (ns.take i))),x]/\H'=H) ⟨none,rfl,rfl⟩ (λi Z H' _ ⟨_,_,e⟩=>by rw[e];exact hl) ?_ ?_⟩
 .rintro i y Z H' hi ⟨x,rfl,rfl⟩;obtain⟨z,hz,rfl⟩:=dH hi;refine⟨_,rfl,z,rfl,ok z (bL hz),?_⟩;refine⟨_,rfl,_,_,rfl,rfl,.inr ⟨by decide,by decide⟩,_,rfl,_,_,rfl,rfl,?_⟩;refine⟨some (.int z),?_,rfl⟩;rw[þ hz,My.OH];rfl
 rintro Z H' ⟨x,rfl,rfl⟩;refine⟨_,rfl,?_⟩;rw[aJ,eV];exact q
def kS:List Str:=["news","part","had","ask","answer"]
structure CD where
 c:Int
 way:List Int
 kind:Str
 ab:List Int
 bd:List Int
def T5(n:Int):Prop:=0<=n/\n<97
def Xp(n:Int):Prop:=0<=n/\n<32
def VF(ns:List Int):Prop:=(1<=ns.length/\ns.length<=6)/\(∀n∈ns,Xp n)/\ns.Nodup
def IZ(ns:List Int)(m:Int):Prop:=(ns.length:Int)<=m/\∀n∈ns,T5 n
structure Ia(L:CD):Prop where
 c:0<=L.c/\L.c<=900000
 way:VF L.way
 kind:L.kind∈kS
 ab:IZ L.ab 4
 bd:IZ L.bd 56
def vf(K:Ni)(H:Hp)(r:JY)(L:CD):Prop:=∃w a b,bO K H r [.int L.c,.ref w,.str L.kind,.ref a,.ref b]/\bO K H w (L.way.map V.int)/\bO K H a (L.ab.map V.int)/\bO K H b (L.bd.map V.int)
def vf.kept{r:JY}{L:CD}(h:vf K H r L)(k:ù H H'):vf K H' r L:=by obtain⟨w,a,b,h1,h2,h3,h4⟩:=h;exact⟨w,a,b,k.tup h1,k.tup h2,k.tup h3,k.tup h4⟩
def vf.same{K:Ni}{H H':Hp}{r:JY}{L:CD}(h:vf K H r L)(s:aI H H'):vf K H' r L:=h.kept (.same s)
def ltD(L:CD):PyData:=.tuple [.int L.c,.tuple (L.way.map .int),.str L.kind,.tuple (L.ab.map .int),.tuple (L.bd.map .int)]
def Zo{n:Nat}(i:Nat)(x:V)(d:PyData)(h1:(ns.map V.int)[i]?=some x)(h2:(ns.map PyData.int)[i]?=some d):ar K H n x d:=by
 rw[bh]at h1 h2;cases e:ns[i]? with
 |none=>rw[e]at h1;cases h1
 |some z=>rw[e]at h1 h2;cases h1;cases h2;exact .int z
def LW{n:Nat}{a:JY}(h:bO K H a (ns.map V.int)):ar K H (n+1) (.ref a) (.tuple (ns.map .int)):=.tup h (by rw[aJ,aJ]) Zo
def W4{k:Str}(h:k∈kS):PyData.strOk k=true:=by
 have:∀k∈kS,PyData.strOk k=true:=by decide +kernel
 exact this k h
def vf.dat{r:JY}{L:CD}(h:vf K H r L)(hk:L.kind∈kS){n:Nat}:ar K H (n+2) (.ref r) (ltD L):=by
 obtain⟨w,a,b,h1,h2,h3,h4⟩:=h;refine .tup h1 rfl λi x d e1 e2=>?_
 match i with
 |0=>cases e1;cases e2;exact .int _
 |1=>cases e1;cases e2;exact LW h2
 |2=>cases e1;cases e2;exact .str _ (W4 hk)
 |3=>cases e1;cases e2;exact LW h3
 |4=>cases e1;cases e2;exact LW h4
 |i+5=>simp at e1
def ko:Sp:=λvs H Q _=>∃n:Int,vs=[.int n]/\Q (.bl (decide (0<=n/\n<32))) H
def Ib:aM ["number"] ["number"] (aH uO):=ac
def Ic(F:aY K mg "is_house" uO)(T:Txt K mg t):ã P w K mg à 1 "is_house" ["number"] ko:=by
 refine F.eY Ib λf bM A á s H vs Q E hr h=>?_;obtain⟨n,rfl,q⟩:=h;refine⟨_,aE (aQ (uz l9 kZ aF (pv 0) (aR T.Te))),?_⟩;refine⟨_,rfl,_,_,rfl,rfl,_,rfl,?_⟩;by_cases h0:0<=n
 .rw[bw h0];refine ig ⟨_,_,rfl,rfl,?_⟩;have e:decide (n<32)=decide (0<=n/\n<32):=by simp[h0]
  show Q (.bl (decide (n<32))) H;rw[e];exact q
 rw[cL h0];refine c9 ?_;have e:false=decide (0<=n/\n<32):=by simp[h0]
 show Q (.bl false) H;rw[e];exact q
inductive eF(K:Ni)(vs:List V)(H:Hp)(Q:VK)(_:XK):Prop
 |mk (b:Bool) (l:JY) (ns:List Int) (m:Int) (_:vs=[.ref l,.int m]) (_:oQ b K H l (ns.map V.int)) (_:IZ ns m) (_:Q .cX H)
def iC:aM ["signs","most","sign"] ["signs","most"] (aH eZ):=ac
def oX(F:vE K mg "look_signs_letters" "look_signs" eZ)(T:Txt K mg t)(cJ:ã P w K mg à 1 "is_sign" ["number"] iK):ã P w K mg à 2 "look_signs_letters" ["signs","most"] (eF K):=by
 refine F.def iC (λ_ _ _ _ _ _=>bm λ_ _=>rfl) (λvs H Q E h=>?_) (λf bM A á s H vs Q E hr h=>?_)
 .obtain⟨b,l,ns,m,rfl,_⟩:=h;rfl
 obtain⟨b,l,ns,m,rfl,hl,ok,q⟩:=h;refine⟨_,aC (ax (bI x6 (cv K T.cS (pv 0)) (pv 1))
   (aE (dP))
   (aW))
  (aE (cu (zG K (pv 0)) (bu 2 iC) (aE (ax (eE (fX (aO cJ hr (aA (pv 2) aD))))
    (aE (dP))
    (aW))))),?_⟩
 have h1:=ok.1;refine⟨_,rfl,l,_,rfl,hl.or,_,rfl,_,_,rfl,rfl,_,rfl,eT (by rw[aJ];lia) ?_⟩;refine⟨_,rfl,b,l,_,rfl,hl,Ek (b:=b) (K:=K) (a:=l) (xs:=ns.map V.int) (λi Z H'=>∃x:Option V,Z=[some (.ref l),some (.int m),x]/\H'=H) ⟨none,rfl,rfl⟩ (λi Z H' _ ⟨_,_,e⟩=>by rw[e];exact hl) ?_ ?_⟩
 .rintro i y Z H' hi ⟨x,rfl,rfl⟩;obtain⟨z,hz,rfl⟩:=dH hi;refine⟨_,rfl,z,rfl,_,rfl,?_⟩;rw[bw (show 0<=z/\z<97 from ok.2 z (bL hz))];exact c9 ⟨_,rfl,rfl⟩
 rintro Z H' ⟨x,rfl,rfl⟩;exact q
def Qb(ns:List Int):ns.map V.int=(ns.map Sum.inl).map kV:=by rw[bB];rfl
def ON:(ns.map (Sum.inl:Int->ä)).reverse.Nodup↔ns.Nodup:=by unfold List.Nodup;rw[List.pairwise_reverse,gm];exact⟨λh=>h.imp λe z=>e (by rw[z]),λh=>h.imp λe z=>e (Sum.inl.inj z).symm⟩
inductive yR(K:Ni)(vs:List V)(H:Hp)(Q:VK)(_:XK):Prop
 |mk (b:Bool) (l:JY) (ns:List Int) (_:vs=[.ref l]) (_:oQ b K H l (ns.map V.int)) (_:VF ns) (_:∀H',aI H H'->Q .cX H')
def yS:aM ["way","house"] ["way"] (aH uP):=ac
def Ie(F:aY K mg "look_way" uP)(T:Txt K mg t)(de:ã P w K mg à 1 "is_house" ["number"] ko):ã P w K mg à 2 "look_way" ["way"] (yR K):=by
 refine F.eY yS λf bM A á s H vs Q E hr h=>?_;obtain⟨b,l,ns,rfl,hl,ok,q⟩:=h;refine⟨_,aC (ax (eE (o5 l9 l9 aF (cv K T.cS (pv 0)) (aR T.FC)))
   (aE (dP))
   (aW))
  (aC (cu (zG K (pv 0)) (bu 1 yS) (aE (ax (eE (fX (aO de hr (aA (pv 1) aD))))
    (aE (dP))
    (aW))))
  (aE (ax (bI rZ (bW (xJ P w) (by rfl) T.cS boot_len (aA (av (qp P w K) (by rfl) T.Mp boot_set (aA (pv 0) aD)) aD)) (cv K T.cS (pv 0)))
   (aE (dP))
   (aW)))),?_⟩
 have o1:=ok.1;refine⟨_,rfl,l,_,rfl,hl.or,_,_,rfl,rfl,_,rfl,fe (by rw[aJ];lia) ?_⟩;refine⟨_,_,rfl,rfl,_,rfl,?_⟩;rw[bw (show(((ns.map V.int).length:Nat):Int)<=6 by rw[aJ];lia)];refine c9 ?_;refine⟨_,rfl,b,l,_,rfl,hl,Ek (b:=b) (K:=K) (a:=l) (xs:=ns.map V.int) (λi Z H'=>∃x:Option V,Z=[some (.ref l),x]/\H'=H) ⟨none,rfl,rfl⟩ (λi Z H' _ ⟨_,_,e⟩=>by rw[e];exact hl) ?_ ?_⟩
 .rintro i y Z H' hi ⟨x,rfl,rfl⟩;obtain⟨z,hz,rfl⟩:=dH hi;refine⟨_,rfl,z,rfl,_,rfl,?_⟩;rw[bw (show 0<=z/\z<32 from ok.2.1 z (bL hz))];exact c9 ⟨_,rfl,rfl⟩
 rintro Z H' ⟨x,rfl,rfl⟩;have sb:(1000:Nat)<scanBound:=by decide
 refine⟨_,rfl,l,ns.map Sum.inl,rfl,by rw[<-Qb];exact hl.or,by rw[aJ];lia,λp hp=>?_⟩;have s1:=(aI.refl H').new (o:=yH P w p (ns.map Sum.inl).reverse) hp;refine⟨p,_,rfl,aB,_,rfl,l,_,rfl,(hl.same s1).or,rfl,_,rfl,?_⟩;have hd:=o9 (ns.map (Sum.inl:Int->ä)).reverse;rw[ON,rT,aJ]at hd;refine ij (by rw[hd.mpr ok.2.2,aJ]) ?_;exact q _ s1
def T6{k:Str}{l:List Str}:EW (.str k) (l.map V.str)=true↔k∈l:=by
 unfold EW;rw[rY];constructor
 .rintro⟨x,hx,e⟩;obtain⟨y,hy,rfl⟩:=ao.mp hx;have e:(y==k)=true:=e;rw[<-show y=k by simpa using e];exact hy
 intro h;exact⟨.str k,ao.mpr ⟨k,h,rfl⟩,by show(k==k)=true;simp⟩
def Mr{k:Int}{l:List Int}:EW (.int k) (l.map V.int)=true↔k∈l:=by
 unfold EW;rw[rY];constructor
 .rintro⟨x,hx,e⟩;obtain⟨y,hy,rfl⟩:=ao.mp hx;have e:(y==k)=true:=e;rw[<-show y=k by simpa using e];exact hy
 intro h;exact⟨.int k,ao.mpr ⟨k,h,rfl⟩,by show(k==k)=true;simp⟩
def jm(l:List Int):(l.map V.int).all jy=true:=by rw[og];intro x hx;obtain⟨y,_,rfl⟩:=ao.mp hx;rfl
inductive kE(K:Ni)(vs:List V)(H:Hp)(Q:VK)(_:XK):Prop
 |mk (b1 b2 b3:Bool) (w a d:JY) (L:CD) (_:vs=[.int L.c,.ref w,.str L.kind,.ref a,.ref d]) (_:oQ b1 K H w (L.way.map V.int)) (_:oQ b2 K H a (L.ab.map V.int)) (_:oQ b3 K H d (L.bd.map V.int)) (_:Ia L) (_:∀r H',aI H H'->vf K H' r L->Q (.ref r) H')
def BF:aM ["count","way","kind","about","body"] ["count","way","kind","about","body"] (aH lL):=ac
def BG(F:aY K mg "made_letter" lL)(T:Txt K mg t)(bQ:ã P w K mg à 2 "look_signs_letters" ["signs","most"] (eF K))(uY:ã P w K mg à 2 "look_way" ["way"] (yR K)):ã P w K mg à 3 "made_letter" ["count","way","kind","about","body"] (kE K):=by
 refine F.eY BF λf bM A á s H vs Q E hr h=>?_;obtain⟨b1,b2,b3,w',a,d,L,rfl,hw,ha,hd,ok,q⟩:=h;refine⟨_,aC (ax (eE (o5 l9 l9 aF (pv 0) (aR T.II)))
   (aE (dP))
   (aW))
  (aC (bA (aO uY hr (aA (pv 1) aD)))
  (aC (ax (jR u7 (pv 2) (mm (v:=.ref t.KINDS) (by rfl) T.FG rfl) (by rfl))
   (aE (dP))
   (aW))
  (aC (bA (aO bQ hr (aA (pv 3) (aA (aR T.A5) aD))))
  (aC (bA (aO bQ hr (aA (pv 4) (aA (aR T.B9) aD))))
  (aE (aQ (c5 (aA (pv 0) (aA (av (pB K) (by rfl) T.gG i6 (aA (pv 1) aD)) (aA (pv 2) (aA (av (pB K) (by rfl) T.gG i6 (aA (pv 3) aD)) (aA (av (pB K) (by rfl) T.gG i6 (aA (pv 4) aD)) aD)))))))))))),?_⟩
 refine⟨_,rfl,_,_,rfl,rfl,_,rfl,fe ok.c.1 ?_⟩;refine⟨_,_,rfl,rfl,_,rfl,?_⟩;rw[bw ok.c.2];refine c9 ?_;refine⟨_,rfl,b1,w',L.way,rfl,hw,ok.way,λH1 s1=>?_⟩;have s1:aI H H1:=s1;refine⟨_,rfl,t.KINDS,_,rfl,.inr (T.FH.sq _),rfl,rfl,_,rfl,?_⟩;have e:EW (.str L.kind) [V.str "news",V.str "part",V.str "had",V.str "ask",V.str "answer"]=true:=(T6 (k:=L.kind) (l:=kS)).mpr ok.kind;rw[e];refine c9 ?_;refine⟨_,rfl,b2,a,L.ab,4,rfl,ha.same s1,ok.ab,?_⟩;refine⟨_,rfl,b3,d,L.bd,56,rfl,hd.same s1,ok.bd,?_⟩;refine⟨_,rfl,_,rfl,b1,w',_,rfl,hw.same s1,λw2 H2 s2 t2=>?_⟩;refine⟨_,rfl,_,rfl,b2,a,_,rfl,(ha.same s1).same s2,λa2 H3 s3 t3=>?_⟩;refine⟨_,rfl,b3,d,_,rfl,((hd.same s1).same s2).same s3,λd2 H4 s4 t4=>?_⟩;refine⟨zz5,λr hr'=>?_⟩;have s5:aI H4 (ü H4 r (.tup [.int L.c,.ref w2,.str L.kind,.ref a2,.ref d2])):=(aI.refl _).new hr';exact q r _ ((((s1.trans s2).trans s3).trans s4).trans s5) ⟨w2,a2,d2,bO.of aB,s5.tup (s4.tup (s3.tup t2)),s5.tup (s4.tup t3),s5.tup t4⟩
def xc{k:Int}(h:i<ns.length)(hk:k=(i:Nat)):rH (ns.map V.int) k=some (.int (ns.getD i 0)):=by
 rw[hk];have:(ns.map V.int)[i]?=some (.int (ns.getD i 0)):=by rw[bh,cT h,lr,cT h];rfl
 exact jT this
def W5{k:Int}{a:JY}(h:as[i]?=some a)(hk:k=(i:Nat)):rH (as.map V.ref) k=some (.ref a):=by rw[hk];exact jT (by rw[bh,h];rfl)
def getD_mem(h:i<ns.length):ns.getD i 0∈ns:=by rw[lr,cT h];exact jJ h
def LX(L:CD):List Int:=(My.low 3 L.c).reverse++[((kS.idxOf L.kind:Nat):Int),(L.way.length:Nat),(L.ab.length:Nat)]++L.way++L.ab++L.bd
def kq(ns:List Int)(i:Nat):Nat:=(ns.getD i 0).toNat
def W6(ns:List Int):CD:=⟨My.õ (ns.take 3),(ns.drop 6).take (kq ns 4),kS.getD (kq ns 3) "",(ns.drop (6+kq ns 4)).take (kq ns 5),ns.drop (6+kq ns 4+kq ns 5)⟩
structure aC8(ns:List Int):Prop where
 sg:IZ ns 72
 l6:6<=ns.length
 k5:ns.getD 3 0<5
 lb:6+kq ns 4+kq ns 5<=ns.length
def Mt:∀k∈kS,kS.getD (kS.idxOf k) ""=k/\kS.idxOf k<5:=by decide +kernel
def T7:∀i<5,kS.idxOf (kS.getD i "")=i/\kS.getD i ""∈kS:=by decide +kernel
def Qc(c:Int):(My.low 3 c).reverse=[c/97/97%97,c/97%97,c%97]:=rfl
def W7(a b c:Int):My.õ [a,b,c]=((0*97+a)*97+b)*97+c:=rfl
def zM(L:CD):(LX L).length=6+L.way.length+L.ab.length+L.bd.length:=by unfold LX;rw[bV,bV,bV,bV,Qc];rfl
def Mu{L:CD}(ok:Ia L):∀n∈LX L,T5 n:=by
 intro n hn;have hw:=ok.way.1.2;have ha:=ok.ab.1;have hi:=(Mt _ ok.kind).2;unfold LX at hn;rcases cH.mp hn with hn|hn
 .rcases cH.mp hn with hn|hn
  .rcases cH.mp hn with hn|hn
   .rw[Qc]at hn;unfold T5;simp only[cH,au,bE,dJ]at hn;rcases hn with(rfl|rfl|rfl)|rfl|rfl|rfl<;>lia
   have:=ok.way.2.1 n hn;unfold Xp at this;unfold T5;lia
  exact ok.ab.2 n hn
 exact ok.bd.2 n hn
def Qd{L:CD}(ok:Ia L):aC8 (LX L)/\W6 (LX L)=L:=by
 have hc:=ok.c;have hw:=ok.way.1.2;have ha:=ok.ab.1;have hb:=ok.bd.1;obtain⟨hk,hi⟩:=Mt _ ok.kind;have e:LX L=(L.c/97/97%97)::(L.c/97%97)::(L.c%97)::((kS.idxOf L.kind:Nat):Int)::((L.way.length:Nat):Int)::((L.ab.length:Nat):Int)::(L.way++L.ab++L.bd):=by unfold LX;rw[Qc,jH,jH,<-jH L.way];rfl
 have n4:kq (LX L) 4=L.way.length:=by rw[e];rfl
 have n5:kq (LX L) 5=L.ab.length:=by rw[e];rfl
 refine⟨⟨⟨by rw[zM];lia,Mu ok⟩,by rw[zM];lia,by rw[e];show((kS.idxOf L.kind:Nat):Int)<5;lia,by rw[n4,n5,zM];lia⟩,?_⟩;unfold W6;rw[n4,n5,e];have t3:My.õ [L.c/97/97%97,L.c/97%97,L.c%97]=L.c:=by rw[W7];lia
 have d1:(L.c/97/97%97::L.c/97%97::L.c%97::((kS.idxOf L.kind:Nat):Int)::((L.way.length:Nat):Int)::((L.ab.length:Nat):Int)::(L.way++L.ab++L.bd)).drop (6+L.way.length)=L.ab++L.bd:=by rw[AB 6];show(L.way++L.ab++L.bd).drop L.way.length=_;rw[jH,List.drop_left]
 have d2:(L.c/97/97%97::L.c/97%97::L.c%97::((kS.idxOf L.kind:Nat):Int)::((L.way.length:Nat):Int)::((L.ab.length:Nat):Int)::(L.way++L.ab++L.bd)).drop (6+L.way.length+L.ab.length)=L.bd:=by rw[<-List.drop_drop,d1,List.drop_left]
 rw[d1,d2];show(⟨My.õ [L.c/97/97%97,L.c/97%97,L.c%97],(L.way++L.ab++L.bd).take L.way.length,kS.getD (kS.idxOf L.kind) "",(L.ab++L.bd).take L.ab.length,L.bd⟩:CD)=L;rw[t3,hk,jH,List.take_left,List.take_left]
inductive oS(K:Ni)(vs:List V)(H:Hp)(Q:VK)(_:XK):Prop
 |mk (r:JY) (L:CD) (_:vs=[.ref r]) (_:vf K H r L) (_:Ia L) (_:∀(p:JY)(H':Hp),H p=none->aI H H'->H' p=some (.lst ((LX L).map V.int))->Q (.ref p) H')
def Qe{L:CD}(h:L.kind∈kS):(∃z,(kS.map V.str)[kS.idxOf L.kind]?=some z/\Bv z (.str L.kind)=true)/\∀(i:Nat)(z:V),i<kS.idxOf L.kind->(kS.map V.str)[i]?=some z->Bv z (.str L.kind)=false:=by
 have jz:kS.idxOf L.kind<kS.length:=List.idxOf_lt_length_iff.mpr h;refine⟨⟨.str kS[kS.idxOf L.kind],by rw[bh,cT jz];rfl,?_⟩,λi z hi hz=>?_⟩
 .show(kS[kS.idxOf L.kind]==L.kind)=true;rw[List.getElem_idxOf jz];simp
 rw[bh,cT (by lia)]at hz;cases hz;exact List.not_of_lt_findIdx (p:=(·==L.kind)) hi
def gL:aM ["letter","way","about","head"] ["letter"] (aH kA):=ac
def yu(F:aY K mg "letter_signs" kA)(T:Txt K mg t)(ba:ã P w K mg à 1 "number_signs" ["number","many"] gI):ã P w K mg à 2 "letter_signs" ["letter"] (oS K):=by
 refine F.eY gL λf bM A á s H vs Q E hr h=>?_;obtain⟨r,L,rfl,hL,ok,q⟩:=h;refine⟨_,aC (aV 1 gL (av (dB K) (by rfl) T.iI i7 (aA (ah (ay K) (pv 0) aF) aD)))
  (aC (aV 2 gL (av (dB K) (by rfl) T.iI i7 (aA (ah (ay K) (pv 0) aF) aD)))
  (aC (aV 3 gL (aT (dI K) (aO ba hr (aA (ah (ay K) (pv 0) aF) (aA (aR T.vW) aD))) (bJ (aA (ff K PySem.F.plainAttrs_tuple PySem.F.slot_tuple_index PySem.F.type_tuple_index (Nn K) (mm (v:=.ref t.KINDS) (by rfl) T.FG rfl) (aA (ah (ay K) (pv 0) aF) aD)) (aA (cv K T.cS (pv 1)) (aA (cv K T.cS (pv 2)) aD))))))
  (aE (aQ (aT (dI K) (aT (dI K) (aT (dI K) (pv 3) (pv 1)) (pv 2)) (av (dB K) (by rfl) T.iI i7 (aA (ah (ay K) (pv 0) aF) aD))))))),?_⟩
 obtain⟨w',a',b',z1,z2,z3,z4⟩:=hL;have hsz:=bZ;have wl:=ok.way.1.2;have al:=ok.ab.1;have bl:=ok.bd.1;have c0:=ok.c.1;have c1:=ok.c.2;refine⟨_,rfl,r,_,_,_,rfl,rfl,z1,rfl,w',_,rfl,.inr z2,λp1 GQ=>?_⟩;have s1:aI H (ü H p1 (.lst (L.way.map V.int))):=(aI.refl _).new GQ;have e1:=@aB H p1 (.lst (L.way.map V.int));generalize ü H p1 (.lst (L.way.map V.int))=H1 at s1 e1 ⊢;refine⟨_,rfl,r,_,_,_,rfl,rfl,s1.tup z1,rfl,a',_,rfl,.inr (s1.tup z3),λp2 uE=>?_⟩;have s2:=s1.new (o:=.lst (L.ab.map V.int)) uE;have e2:=@aB H1 p2 (.lst (L.ab.map V.int));have e1':=(aI.refl H1).new (o:=.lst (L.ab.map V.int)) uE _ _ e1;generalize ü H1 p2 (.lst (L.ab.map V.int))=H2 at s2 e2 e1' ⊢;refine⟨_,rfl,r,_,_,_,rfl,rfl,s2.tup z1,rfl,L.c,3,rfl,by decide,by decide,c0,?_,λp3 H3 Oq s3 e3=>?_⟩
 .have:My.û 3 L.c=L.c/97/97/97:=rfl;rw[show(3:Int).toNat=3 from rfl,this];lia
 have S3:=s2.trans s3;have kk:=Qe ok.kind;refine⟨.inr (.inl ⟨rfl,T.Wt⟩),_,rfl,r,_,_,_,rfl,rfl,S3.tup z1,rfl,t.KINDS,_,_,kS.idxOf L.kind,rfl,rfl,T.FH.sq _,rfl,rfl,kk.1,kk.2,?_⟩;have e1s:=s3 _ _ e1';have e2s:=s3 _ _ e2;refine⟨_,rfl,p1,_,rfl,.inl (aX.of e1s),_,rfl,p2,_,rfl,.inl (aX.of e2s),ô,λp4 T4=>?_⟩;rw[aJ,aJ];have S4:=S3.new (o:=.lst [.int ((kS.idxOf L.kind:Nat):Int),.int (L.way.length:Nat),.int (L.ab.length:Nat)]) T4;have k4:aI H3 (ü H3 p4 (.lst [.int ((kS.idxOf L.kind:Nat):Int),.int (L.way.length:Nat),.int (L.ab.length:Nat)])):=(aI.refl _).new T4;have e4:(ü H3 p4 (.lst [.int ((kS.idxOf L.kind:Nat):Int),.int (L.way.length:Nat),.int (L.ab.length:Nat)])) p4=some (.lst (([((kS.idxOf L.kind:Nat):Int),(L.way.length:Nat),(L.ab.length:Nat)]:List Int).map V.int)):=aB;generalize ü H3 p4 (.lst [.int ((kS.idxOf L.kind:Nat):Int),.int (L.way.length:Nat),.int (L.ab.length:Nat)])=H4 at S4 k4 e4 ⊢;have e34:=k4 _ _ e3;rw[show(3:Int).toNat=3 from rfl]at e34;refine⟨p3,p4,_,_,rfl,rfl,aX.of e34,aX.of e4,by rw[Qc];show 3+3<=sizeLine;lia,λp5 hp5=>?_⟩;rw[<-bD];have k5:aI H4 (ü H4 p5 (.lst (((My.low 3 L.c).reverse++[((kS.idxOf L.kind:Nat):Int),(L.way.length:Nat),(L.ab.length:Nat)]).map V.int))):=(aI.refl _).new hp5;have e5:=@aB H4 p5 (.lst (((My.low 3 L.c).reverse++[((kS.idxOf L.kind:Nat):Int),(L.way.length:Nat),(L.ab.length:Nat)]).map V.int));generalize hg:(My.low 3 L.c).reverse++[((kS.idxOf L.kind:Nat):Int),(L.way.length:Nat),(L.ab.length:Nat)]=g at k5 e5 ⊢;have gl:g.length=6:=by rw[<-hg,Qc];rfl
 generalize ü H4 p5 (.lst (g.map V.int))=H5 at k5 e5 ⊢;have k35:=k4.trans k5;refine⟨_,rfl,_,rfl,p5,p1,_,_,rfl,rfl,aX.of e5,aX.of (k35 _ _ e1s),by rw[aJ,aJ];lia,λp6 hp6=>?_⟩;rw[<-bD];have k6:aI H5 (ü H5 p6 (.lst ((g++L.way).map V.int))):=(aI.refl _).new hp6;have e6:=@aB H5 p6 (.lst ((g++L.way).map V.int));generalize ü H5 p6 (.lst ((g++L.way).map V.int))=H6 at k6 e6 ⊢;refine⟨_,rfl,p6,p2,_,_,rfl,rfl,aX.of e6,aX.of ((k35.trans k6) _ _ e2s),by rw[aJ,aJ,bV];lia,λp7 hp7=>?_⟩;rw[<-bD];have k7:aI H6 (ü H6 p7 (.lst ((g++L.way++L.ab).map V.int))):=(aI.refl _).new hp7;have e7:=@aB H6 p7 (.lst ((g++L.way++L.ab).map V.int));generalize ü H6 p7 (.lst ((g++L.way++L.ab).map V.int))=H7 at k7 e7 ⊢;have S7:=((S4.trans k5).trans k6).trans k7;refine⟨_,rfl,r,_,_,_,rfl,rfl,S7.tup z1,rfl,b',_,rfl,.inr (S7.tup z4),λp8 hp8=>?_⟩;have k8:aI H7 (ü H7 p8 (.lst (L.bd.map V.int))):=(aI.refl _).new hp8;have e8:=@aB H7 p8 (.lst (L.bd.map V.int));generalize ü H7 p8 (.lst (L.bd.map V.int))=H8 at k8 e8 ⊢;have S8:=S7.trans k8;refine⟨p7,p8,_,_,rfl,rfl,aX.of (k8 _ _ e7),aX.of e8,by rw[aJ,aJ,bV,bV];lia,λp9 hp9=>?_⟩;rw[<-bD];refine q p9 _ (S8.free hp9) (S8.new hp9) ?_;rw[aB,<-hg];rfl
inductive vg(K:Ni)(vs:List V)(H:Hp)(Q:VK)(_:XK):Prop
 |mk (l:JY) (L:CD) (_:vs=[.ref l]) (_:aX K H l ((LX L).map V.int)) (_:Ia L) (_:∀r H',aI H H'->vf K H' r L->Q (.ref r) H')
def hU:aM ["signs","about_at","body_at","count","kind"] ["signs"] (aH pM):=ac
def FV(F:aY K mg "letter_of" pM)(T:Txt K mg t)(bQ:ã P w K mg à 2 "look_signs_letters" ["signs","most"] (eF K))(bc:ã P w K mg à 3 "signs_number" ["signs"] (gJ K))(d8:ã P w K mg à 3 "made_letter" ["count","way","kind","about","body"] (kE K)):ã P w K mg à 4 "letter_of" ["signs"] (vg K):=by
 refine F.eY hU λf bM A á s H vs Q E hr h=>?_;obtain⟨l,L,rfl,hl,ok,q⟩:=h;refine⟨_,aC (bA (aO bQ hr (aA (pv 0) (aA (aR T.IL) aD))))
  (aC (ax (PW.pt (kX (bI kZ (cv K T.cS (pv 0)) (aR T.FF)) (jx (bI YM (ah (aZ K) (pv 0) (aR T.IF)) (cv K T.cS (mm (v:=.ref t.KINDS) (by rfl) T.FG rfl))))))
   (aE (dP))
   (aW))
  (aC (aV 1 hU (aT bT (aR T.FF) (ah (aZ K) (pv 0) (aR T.A8))))
  (aC (aV 2 hU (aT bT (pv 1) (ah (aZ K) (pv 0) (aR T.xV))))
  (aC (ax (bI kZ (cv K T.cS (pv 0)) (pv 2))
   (aE (dP))
   (aW))
  (aC (aV 3 hU (aO bc hr (aA (cP (cU K) (pv 0) jS (bj (aR T.vW))) aD)))
  (aC (aV 4 hU (ah (ay K) (mm (v:=.ref t.KINDS) (by rfl) T.FG rfl) (ah (aZ K) (pv 0) (aR T.IF))))
  (aE (aQ (aO d8 hr (aA (pv 3) (aA (cP (cU K) (pv 0) (bj (aR T.FF)) (bj (pv 1))) (aA (pv 4) (aA (cP (cU K) (pv 0) (bj (pv 1)) (bj (pv 2))) (aA (cP (cU K) (pv 0) (bj (pv 2)) jS) aD)))))))))))))),?_⟩
 have hsz:=bZ;obtain⟨hd,eL⟩:=Qd ok;generalize LX L=ns at hl hd eL;have sg:=hd.sg;have l72:=sg.1;have h6:=hd.l6;have h5:=hd.k5;have hbd:=hd.lb;have s3:=sg.2 _ (getD_mem (i:=3) (by lia));have s4:=sg.2 _ (getD_mem (i:=4) (by lia));have s5:=sg.2 _ (getD_mem (i:=5) (by lia));unfold T5 at s3 s4 s5;have n4:ns.getD 4 0=(kq ns 4:Nat):=by unfold kq;lia
 have n5:ns.getD 5 0=(kq ns 5:Nat):=by unfold kq;lia
 refine⟨_,rfl,true,l,ns,72,rfl,hl,sg,?_⟩;refine⟨_,rfl,l,_,rfl,.inl hl,_,_,rfl,rfl,_,rfl,eT (by rw[aJ];lia) ?_⟩;refine⟨_,rfl,l,_,_,_,rfl,rfl,hl,xc (i:=3) (by lia) rfl,t.KINDS,_,rfl,.inr (T.FH.sq _),_,_,rfl,rfl,_,rfl,eT (show ¬(5:Int)<=ns.getD 3 0 by lia) ?_⟩;refine⟨_,rfl,l,_,_,_,rfl,rfl,hl,xc (i:=4) (by lia) rfl,_,_,rfl,rfl,?_⟩;refine⟨_,rfl,_,rfl,l,_,_,_,rfl,rfl,hl,xc (i:=5) (by lia) rfl,_,_,rfl,rfl,?_⟩;refine⟨_,rfl,l,_,rfl,.inl hl,_,rfl,_,_,rfl,rfl,_,rfl,eT (by rw[aJ];lia) ?_⟩;have c3:dN (ns.map V.int) none (some 3)=(ns.take 3).map V.int:=by rw[FU (by decide),ma];rfl
 refine⟨_,rfl,_,rfl,l,_,rfl,hl,λp1 GQ=>?_⟩;rw[c3];have s1:aI H (ü H p1 (.lst ((ns.take 3).map V.int))):=(aI.refl _).new GQ;refine⟨p1,ns.take 3,rfl,aX.of aB,λn hn=>sg.2 n (zZ hn),?_⟩;generalize ü H p1 (.lst ((ns.take 3).map V.int))=H1 at s1 ⊢;obtain⟨ik,hk⟩:=T7 (kq ns 3) (by unfold kq;lia);have ek:rH [V.str "news",V.str "part",V.str "had",V.str "ask",V.str "answer"] (ns.getD 3 0)=some (.str (kS.getD (kq ns 3) "")):=by
  have jz:kq ns 3<kS.length:=by show _<5;unfold kq;lia
  rw[show ns.getD 3 0=((kq ns 3:Nat):Int) by unfold kq;lia];exact jT (xs:=kS.map V.str) (by rw[bh,cT jz,lr,cT jz];rfl)
 refine⟨_,rfl,l,_,_,_,rfl,rfl,s1.seq hl,xc (i:=3) (by lia) rfl,t.KINDS,_,_,_,rfl,rfl,T.FH.sq _,ek,?_⟩;have c6:dN (ns.map V.int) (some 6) (some (6+ns.getD 4 0))=((ns.drop 6).take (kq ns 4)).map V.int:=by rw[km (by decide) (by lia),ma,k9,show(6+ns.getD 4 0).toNat-(6:Int).toNat=kq ns 4 by lia];rfl
 have c7:dN (ns.map V.int) (some (6+ns.getD 4 0)) (some (6+ns.getD 4 0+ns.getD 5 0))=((ns.drop (6+kq ns 4)).take (kq ns 5)).map V.int:=by rw[km (by lia) (by lia),ma,k9,show(6+ns.getD 4 0+ns.getD 5 0).toNat-(6+ns.getD 4 0).toNat=kq ns 5 by lia,show(6+ns.getD 4 0).toNat=6+kq ns 4 by lia]
 have c8:dN (ns.map V.int) (some (6+ns.getD 4 0+ns.getD 5 0)) none=(ns.drop (6+kq ns 4+kq ns 5)).map V.int:=by rw[zL (by lia),k9,show(6+ns.getD 4 0+ns.getD 5 0).toNat=6+kq ns 4+kq ns 5 by lia]
 refine⟨_,rfl,_,rfl,_,rfl,_,rfl,_,rfl,l,_,rfl,s1.seq hl,λp2 uE=>?_⟩;rw[c6];obtain⟨H2,ja,s2,e2⟩:=nL s1 (o:=.lst (((ns.drop 6).take (kq ns 4)).map V.int)) uE;rw[ja];refine⟨_,rfl,_,rfl,_,rfl,_,rfl,_,rfl,_,rfl,l,_,rfl,s2.seq hl,λp3 Oq=>?_⟩;rw[c7];have k3:aI H2 (ü H2 p3 (.lst (((ns.drop (6+kq ns 4)).take (kq ns 5)).map V.int))):=(aI.refl _).new Oq;have e3:=@aB H2 p3 (.lst (((ns.drop (6+kq ns 4)).take (kq ns 5)).map V.int));generalize ü H2 p3 (.lst (((ns.drop (6+kq ns 4)).take (kq ns 5)).map V.int))=H3 at k3 e3 ⊢;refine⟨_,rfl,_,rfl,_,rfl,l,_,rfl,(s2.trans k3).seq hl,λp4 T4=>?_⟩;rw[c8];have k4:aI H3 (ü H3 p4 (.lst ((ns.drop (6+kq ns 4+kq ns 5)).map V.int))):=(aI.refl _).new T4;have e4:=@aB H3 p4 (.lst ((ns.drop (6+kq ns 4+kq ns 5)).map V.int));generalize ü H3 p4 (.lst ((ns.drop (6+kq ns 4+kq ns 5)).map V.int))=H4 at k4 e4 ⊢;have S4:=(s2.trans k3).trans k4;refine⟨true,true,true,p2,p3,p4,W6 ns,rfl,aX.of (k4 _ _ (k3 _ _ e2)),aX.of (k4 _ _ e3),aX.of e4,by rw[eL];exact ok,λr H5 s5 R=>q r H5 (S4.trans s5) (by rw[<-eL];exact R)⟩
def Qf(ns:List Int):Prop:=(1<=ns.length/\ns.length<=10)/\∀n∈ns,T5 n
inductive sM(K:Ni)(vs:List V)(H:Hp)(Q:VK)(_:XK):Prop
 |mk (l:JY) (ns:List Int) (_:vs=[.ref l]) (_:aX K H l (ns.map V.int)) (_:Qf ns) (_:Q .cX H)
def sU:aM ["piece","sign"] ["piece"] (aH nQ):=ac
def CF(F:aY K mg "look_piece" nQ)(T:Txt K mg t)(cJ:ã P w K mg à 1 "is_sign" ["number"] iK):ã P w K mg à 2 "look_piece" ["piece"] (sM K):=by
 refine F.eY sU λf bM A á s H vs Q E hr h=>?_;obtain⟨l,ns,rfl,hl,ok,q⟩:=h;refine⟨_,aC (ax (eE (o5 l9 l9 aF (cv K T.cS (pv 0)) (aR T.A6)))
   (aE (dP))
   (aW))
  (aE (cu (bH K (pv 0)) (bu 1 sU) (aE (ax (eE (fX (aO cJ hr (aA (pv 1) aD))))
    (aE (dP))
    (aW))))),?_⟩
 have o1:=ok.1;refine⟨_,rfl,l,_,rfl,.inl hl,_,_,rfl,rfl,_,rfl,fe (by rw[aJ];lia) ?_⟩;refine⟨_,_,rfl,rfl,_,rfl,?_⟩;rw[bw (show(((ns.map V.int).length:Nat):Int)<=10 by rw[aJ];lia)];refine c9 ?_;refine⟨_,rfl,l,rfl,⟨_,hl⟩,dq (K:=K) (a:=l) (xs:=ns.map V.int) (λi Z H'=>∃x:Option V,Z=[some (.ref l),x]/\H'=H) ⟨none,rfl,rfl⟩ (λi Z H' _ ⟨_,_,e⟩=>by rw[e];exact hl) ?_ ?_⟩
 .rintro i y Z H' hi ⟨x,rfl,rfl⟩;obtain⟨z,hz,rfl⟩:=dH hi;refine⟨_,rfl,z,rfl,_,rfl,?_⟩;rw[bw (show 0<=z/\z<97 from ok.2 z (bL hz))];exact c9 ⟨_,rfl,rfl⟩
 rintro Z H' ⟨x,rfl,rfl⟩;exact q
def qG(C:JY)(H:Hp)(x l:JY)(js:List Int):Prop:=(∃dx,H x=some (.ins C dx [("joined",.ref l)]))/\H l=some (.lst (js.map V.int))
def qG.mods{x l:JY}(h:qG C H x l js)(m:cB S H H')(n1:x∉S)(n2:l∉S):qG C H' x l js:=by obtain⟨⟨dx,h1⟩,h2⟩:=h;exact⟨⟨dx,m _ _ n1 h1⟩,m _ _ n2 h2⟩
def qG.same{C:JY}{H H':Hp}{x l:JY}{js:List Int}(h:qG C H x l js)(s:aI H H'):qG C H' x l js:=h.mods (S:=[]) (cB.same s) bE bE
def qH(C:JY):Sp:=λvs H Q _=>∃x dx,vs=[.ref x]/\H x=some (.ins C dx [])/\∀(l:JY)(H':Hp),H l=none->cB [x] H H'->qG C H' x l []->Q .cX H'
def BH:aM ["self"] ["self"] (aH lR):=ac
def BI(T:Txt K mg t)(F:vA K "__init__" "Joiner.__init__" lR t.iy fd):cn P w K mg à (oV P w) 1 t.iy fd ["self"] (qH t.Joiner)/\ú K fd ["self"] []:=by
 refine⟨F.G8 BH (λvs H Q E h=>?_) (λf bM A á s H vs Q E hr h=>?_),F.binds λ_ _ _ _ _ _=>ad λ_=>rfl⟩
 .obtain⟨x,dx,rfl,_⟩:=h;rfl
 obtain⟨x,dx,rfl,hx,q⟩:=h;refine⟨_,aE (Eg K (pv 0) (bJ aD) (by rfl)),?_⟩;refine⟨ñ,λl hl=>?_⟩;have n:x≠l:=aP hx hl;refine⟨_,rfl,x,t.Joiner,dx,_,rfl,by rw[aN n];exact hx,T.vX,T.qu,by show 0<1000;decide,?_⟩;exact q l _ hl ((cB.refl.upd (.inr hl)).upd (.inl bp)) ⟨⟨dx,aB⟩,by rw[aN (bS n)];exact aB⟩
inductive Mv(K:Ni)(C:JY)(vs:List V)(H:Hp)(Q:VK)(E:XK):Prop
 |mk (x l p:JY) (js ns:List Int) (_:vs=[.ref x,.ref p]) (_:qG C H x l js) (_:aX K H p (ns.map V.int)) (_:p≠l) (_:Qf ns) (_:js.length<=100000) (_:(ns.head?=some 0->∀H',cB [l] H H'->qG C H' x l (js++ns.tail)->Q .cX H')) (_:(ns.head?≠some 0->∀l' H',H l'=none->cB [x,l] H H'->H' l=some (.lst ((js++ns.tail).map V.int))->qG C H' x l' []->Q (.ref l) H'))
def Mw:aM ["self","piece","whole"] ["self","piece"] (aH LF):=ac
def T8(T:Txt K mg t)(F:vA K "take" "Joiner.take" LF t.A3 fd)(n8:ã P w K mg à 2 "look_piece" ["piece"] (sM K)):
  cn P w K mg à (oV P w) 3 t.A3 fd ["self","piece"] (Mv K t.Joiner)/\ú K fd ["self","piece"] []:=by
 refine⟨F.G8 Mw (λvs H Q E h=>?_) (λf bM A á s H vs Q E hr h=>?_),F.binds λ_ _ _ _ _ _=>bm λ_ _=>rfl⟩
 .obtain⟨x,l,p,js,ns,rfl,_⟩:=h;rfl
 obtain⟨x,l,p,js,ns,rfl,hj,hp,npl,Tw,hz,q1,q2⟩:=h;refine⟨_,aC (bA (aO n8 hr (aA (pv 1) aD)))
  (aC (bA (ff K oa aAk aAj w8 (nC K (pv 0) (by rfl)) (aA (cP (cU K) (pv 1) (bj aF) jS) aD)))
  (aC (ax (bI jN (ah (aZ K) (pv 1) aF) (aR T.IE))
   (aE (aQ eC))
   (aW))
  (aC (aV 2 Mw (nC K (pv 0) (by rfl)))
  (aC (Eg K (pv 0) (bJ aD) (by rfl))
  (aE (aQ (pv 2))))))),?_⟩
 have hsz:=bZ;refine⟨_,rfl,p,ns,rfl,hp,Tw,?_⟩;obtain⟨⟨dx,hx⟩,hl⟩:=hj;have Zp:x≠l:=xy hx hl (by intro z;cases z);refine⟨_,rfl,x,t.Joiner,dx,_,_,rfl,hx,T.vX,T.qu,rfl,.inl ⟨rfl,_,aX.of hl⟩,_,rfl,_,rfl,p,_,rfl,hp,λpb Qg=>?_⟩;have ec:dN (ns.map V.int) (some 1) none=ns.tail.map V.int:=by rw[zL (by decide),<-k9,show(1:Int).toNat=1 from rfl,List.drop_one]
 rw[ec];have nlb:l≠pb:=aP hl Qg;have nxb:x≠pb:=aP hx Qg;refine⟨l,pb,_,_,rfl,rfl,by rw[aN nlb];exact hl,aB,by rw[aJ,aJ,List.length_tail];have:=Tw.1;lia,?_⟩;rw[<-bD];have m2:cB [l] H (ü (ü H pb (.lst (ns.tail.map V.int))) l (.lst ((js++ns.tail).map V.int))):=(cB.refl.upd (.inr Qg)).upd (.inl bp);have Uw:=m2.of hx (by simpa using Zp);have uE:=m2.seq hp (by simpa using npl);have Gf:(ü (ü H pb (.lst (ns.tail.map V.int))) l (.lst ((js++ns.tail).map V.int))) l=some (.lst ((js++ns.tail).map V.int)):=aB;generalize ü (ü H pb (.lst (ns.tail.map V.int))) l (.lst ((js++ns.tail).map V.int))=H2 at m2 Uw uE Gf ⊢;obtain⟨n0,nt,en⟩:∃n0 nt,ns=n0::nt:=by
  cases ns with
  |nil=>exact absurd Tw.1.1 (by decide)
  |cons a b=>exact⟨a,b,rfl⟩
 refine⟨_,rfl,p,_,_,_,rfl,rfl,uE,by rw[en];exact SO _ _,rfl,_,rfl,?_⟩;by_cases h0:n0=0
 .refine fe (by rw[h0]) ?_;exact q1 (by rw[en,h0];rfl) H2 m2 ⟨⟨dx,Uw⟩,Gf⟩
 refine eT (λz=>h0 (V.int.inj z)) ?_;refine⟨_,rfl,x,t.Joiner,dx,_,_,rfl,Uw,T.vX,T.qu,rfl,?_⟩;refine⟨ñ,λl' Rt=>?_⟩;have n3:x≠l':=aP Uw Rt;have n4:l≠l':=aP Gf Rt;refine⟨_,rfl,x,t.Joiner,dx,_,rfl,by rw[aN n3];exact Uw,T.vX,T.qu,by show 1<1000;decide,?_⟩;have fl:H l'=none:=by
  cases e:H l' with
  |none=>rfl
  |some o=>rw[m2.of e (by simpa using bS n4)]at Rt;cases Rt
 refine⟨_,rfl,?_⟩;refine q2 (by rw[en];intro z;exact h0 (bR z)) l' _ fl (((m2.up (S':=[x,l]) λy hy=>bU _ hy).upd (.inr fl)).upd (.inl bp)) ?_ ⟨⟨dx,aB⟩,?_⟩
 .rw[aN (bS Zp),aN n4];exact Gf
 rw[aN (bS n3)];exact aB
def BJ(n:Nat):Nat:=(n+8)/9
def qI(ns:List Int)(i:Nat):List Int:=(if 9*i+9<ns.length then 0 else 1)::(ns.drop (9*i)).take 9
def BK(ns:List Int):List (List Int):=(List.range (BJ ns.length)).map (qI ns)
def qy(ns:List Int):(BK ns).length=BJ ns.length:=by unfold BK;rw[aJ,wU]
def Ig(h:i<BJ ns.length):(BK ns)[i]?=some (qI ns i):=by unfold BK;rw[bh,List.getElem?_range h];rfl
def Zq(n:Nat):(Builtin.Range.rangeSize 0 (n:Nat) 9).toNat=BJ n:=by unfold Builtin.Range.rangeSize BJ;rw[aL (by decide)];split<;>lia
inductive vh(K:Ni)(vs:List V)(H:Hp)(Q:VK)(_:XK):Prop
 |mk (l:JY) (ns:List Int) (_:vs=[.ref l]) (_:aX K H l (ns.map V.int)) (_:ns.length<=1000) (_:∀(p:JY)(as:List JY)(H':Hp),H p=none->(∀a∈as,H a=none)->(p::as).Nodup->aI H H'->H' p=some (.lst (as.map V.ref))->dR H' as (BK ns)->Q (.ref p) H')
def hV:aM ["signs","pieces","begin","end","head"] ["signs"] (aH pN):=ac
def FW(F:aY K mg "pieces_of" pN)(T:Txt K mg t):ã P w K mg à 1 "pieces_of" ["signs"] (vh K):=by
 refine F.eY hV λf bM A á s H vs Q E hr h=>?_;obtain⟨l,ns,rfl,hl,hz,q⟩:=h;refine⟨_,aC (aV 1 hV (bJ aD))
  (aC (cu (C4 (by rfl) T.cw (aA aF (aA (cv K T.cS (pv 0)) (aA (aR T.pf) aD)))) (bu 2 hV) (aC (aV 3 hV (aT bT (pv 2) (aR T.pf)))
   (aC (aV 4 hV (uw (bI kZ (pv 3) (cv K T.cS (pv 0))) (aR T.IE) (aR T.Zh)))
   (aE (bA (ff K oa xt xr fK (pv 1) (aA (aT (dI K) (bJ (aA (pv 4) aD)) (cP (cU K) (pv 0) (bj (pv 2)) (bj (pv 3)))) aD)))))))
  (aE (aQ (pv 1)))),?_⟩
 have hsz:=bZ;refine⟨ñ,λp hp=>?_⟩;have s0:aI H (ü H p (.lst [])):=(aI.refl _).new hp;refine⟨_,rfl,l,_,rfl,.inl (s0.seq hl),_,_,_,rfl,⟨by lia,by lia,by lia,by rw[aJ];lia,by lia,by lia⟩,?_⟩;rw[aJ,Zq];refine Kg (lo:=0) (st:=9) (n:=BJ ns.length) (λi Z H'=>∃(x y z:Option V)(as:List JY),Z=[some (.ref l),some (.ref p),x,y,z]/\(∀a∈as,H a=none)/\(p::as).Nodup/\aI H H'/\H' p=some (.lst (as.map V.ref))/\dR H' as ((BK ns).take i))
  ⟨none,none,none,[],rfl,λa ha=>by simp at ha,by simp,s0,aB,by rw[zm];exact dR.nil⟩ ?_ ?_
 .rintro i Z H' hi ⟨x,y,z,as,rfl,hn,nd,s1,h1,hr⟩;have hal:as.length=i:=by rw[hr.1,cc,qy];lia
  refine⟨_,rfl,_,_,rfl,rfl,?_⟩;refine⟨_,rfl,_,rfl,l,_,rfl,.inl (s1.seq hl),_,_,rfl,rfl,_,rfl,?_⟩;rw[aJ];have fin:∀(pa pb pc:JY)(o1 o2:HO),H' pa=none->(ü H' pa o1) pb=none->(ü (ü H' pa o1) pb o2) pc=none->∀(xs:List V),xs=(qI ns i).map V.int ->
    (ü (ü (ü H' pa o1) pb o2) pc (.lst xs)) p=some (.lst (as.map V.ref))/\∃Sq:List JY,Sq=as++[pc]/\(∀a∈Sq,H a=none)/\(p::Sq).Nodup/\aI H (ü (ü (ü (ü H' pa o1) pb o2) pc (.lst xs)) p (.lst (Sq.map V.ref))) /\
     dR (ü (ü (ü (ü H' pa o1) pb o2) pc (.lst xs)) p (.lst (Sq.map V.ref))) Sq ((BK ns).take (i+1)):=by
   rintro pa pb pc o1 o2 na nb nc xs rfl;have t1:aI H' (ü (ü (ü H' pa o1) pb o2) pc (.lst ((qI ns i).map V.int))):=(((aI.refl _).new na).new nb).new nc;have t2:aI H' (ü (ü H' pa o1) pb o2):=((aI.refl _).new na).new nb;have fc:H' pc=none:=t2.free nc;have npc:p≠pc:=aP h1 fc;refine⟨t1 _ _ h1,_,rfl,λa ha=>?_,?_,(s1.trans t1).put hp,?_⟩
   .rcases cH.mp ha with ha|ha
    .exact hn a ha
    rw[bX.mp ha];exact s1.free fc
   .rw[<-Du,uv];refine⟨nd,by simp,λa ha b hb z=>?_⟩;rw[bX.mp hb]at z;rw[z]at ha;rcases au.mp ha with ha|ha
    .exact npc ha.symm
    obtain⟨o,ho⟩:=hr.some pc ha;rw[ho]at fc;cases fc
   rw[þ (Ig hi)];have np:∀a∈as,a≠p:=λa ha z=>(by rw[z]at ha;exact(ic.mp nd).1 ha);refine dR.snoc ((hr.same t1).mods (S:=[p]) (cB.refl.upd (.inl bp)) λa ha z=>np a ha (bX.mp z)) ?_;rw[aN (bS npc)];exact aB
  have pl:BJ ns.length<=1000:=by unfold BJ;lia
  have lg:(as.map V.ref).length<sizeLine:=by rw[aJ,hal];lia
  by_cases h9:9*i+9<ns.length
  .refine fe (by lia) ?_;have e:qI ns i=0::(ns.drop (9*i)).take 9:=(by unfold qI;rw[aL h9]);refine⟨_,rfl,.inl ⟨rfl,_,aX.of h1⟩,_,rfl,ò,λpa W3=>?_⟩;have s2:=s1.new (o:=.lst [.int 0]) W3;refine⟨_,rfl,_,rfl,_,rfl,_,rfl,_,rfl,l,_,rfl,s2.seq hl,λpb Qg=>?_⟩;have s3:=s2.new (o:=.lst (dN (ns.map V.int) (some (0+(i:Nat)*9)) (some (0+(i:Nat)*9+9)))) Qg;have nab:pa≠pb:=aP aB Qg;refine⟨pa,pb,_,_,rfl,rfl,aX.of (by rw[aN nab];exact aB),aX.of aB,by have:=ka (ns.map V.int) (some (0+(i:Nat)*9)) (some (0+(i:Nat)*9+9));rw[aJ]at this;show 1+_<=sizeLine;lia,λpc Tw=>?_⟩;obtain⟨g1,Sq,rfl,g2,g3,g4,g5⟩:=fin pa pb pc _ _ W3 Qg Tw ([V.int 0]++dN (ns.map V.int) (some (0+(i:Nat)*9)) (some (0+(i:Nat)*9+9))) (by rw[e,km (by lia) (by lia),show(0+(i:Nat)*9:Int).toNat=9*i by lia,show(0+(i:Nat)*9+9:Int).toNat-9*i=9 by lia,<-k9,<-ma];rfl);refine⟨p,_,_,rfl,rfl,g1,lg,?_⟩;refine⟨_,_,_,as++[pc],rfl,g2,g3,?_,?_,?_⟩
   .rw[bD]at g4;exact g4
   .rw[aB,bD];rfl
   rw[bD]at g5;exact g5
  refine eT (by lia) ?_;have e:qI ns i=1::(ns.drop (9*i)).take 9:=by unfold qI;rw[aK h9]
  refine⟨_,rfl,.inl ⟨rfl,_,aX.of h1⟩,_,rfl,ò,λpa W3=>?_⟩;have s2:=s1.new (o:=.lst [.int 1]) W3;refine⟨_,rfl,_,rfl,_,rfl,_,rfl,_,rfl,l,_,rfl,s2.seq hl,λpb Qg=>?_⟩;have s3:=s2.new (o:=.lst (dN (ns.map V.int) (some (0+(i:Nat)*9)) (some (0+(i:Nat)*9+9)))) Qg;have nab:pa≠pb:=aP aB Qg;refine⟨pa,pb,_,_,rfl,rfl,aX.of (by rw[aN nab];exact aB),aX.of aB,by have:=ka (ns.map V.int) (some (0+(i:Nat)*9)) (some (0+(i:Nat)*9+9));rw[aJ]at this;show 1+_<=sizeLine;lia,λpc Tw=>?_⟩;obtain⟨g1,Sq,rfl,g2,g3,g4,g5⟩:=fin pa pb pc _ _ W3 Qg Tw ([V.int 1]++dN (ns.map V.int) (some (0+(i:Nat)*9)) (some (0+(i:Nat)*9+9))) (by rw[e,km (by lia) (by lia),show(0+(i:Nat)*9:Int).toNat=9*i by lia,show(0+(i:Nat)*9+9:Int).toNat-9*i=9 by lia,<-k9,<-ma];rfl);refine⟨p,_,_,rfl,rfl,g1,lg,?_⟩;refine⟨_,_,_,as++[pc],rfl,g2,g3,?_,?_,?_⟩
  .rw[bD]at g4;exact g4
  .rw[aB,bD];rfl
  rw[bD]at g5;exact g5
 rintro Z H' ⟨x,y,z,as,rfl,hn,nd,s1,h1,hr⟩;refine⟨_,rfl,?_⟩;rw[zV (by rw[qy];exact ae _)]at hr;exact q p as H' hp hn nd s1 h1 hr
def T9(hs:∀n∈ns,T5 n):Qf (qI ns i):=by
 unfold qI;refine⟨⟨by rw[cQ];lia,by rw[cQ,cc];lia⟩,λn hn=>?_⟩;rcases au.mp hn with e|hn
 .rw[e];split<;>exact⟨by decide,by decide⟩
 exact hs n (Jq (zZ hn))
def UA(h:i+1<BJ ns.length):(qI ns i).head?=some 0:=by unfold qI BJ at *;rw[aL (by lia)];rfl
def Qh(h:¬i+1<BJ ns.length):(qI ns i).head?=some 1:=by unfold qI BJ at *;rw[aK (by lia)];rfl
def DJ(ns:List Int)(i:Nat):ns.take (9*i)++(qI ns i).tail=ns.take (9*(i+1)):=by show ns.take (9*i)++(ns.drop (9*i)).take 9=_;rw[show 9*(i+1)=9*i+9 by lia,List.take_add]
def Ru(n:Int):Prop:=n.natAbs<2 ^ 1000
def Ru.of{n:Int}(h:-(10 ^ 60)<=n)(h2:n<=10 ^ 60):Ru n:=SI h h2
def lU:Sp:=λvs H Q E=>∃n:Int,vs=[.int n]/\Ru n/\(Xp n->Q .cX H)/\(¬Xp n->False)
def CG:aM ["number"] ["number"] (aH nR):=ac
def CH(F:aY K mg "look_house" nR)(T:Txt K mg t)(de:ã P w K mg à 1 "is_house" ["number"] ko):ã P w K mg à 2 "look_house" ["number"] lU:=by
 refine F.eY CG λf bM A á s H vs Q E hr h=>?_;obtain⟨n,rfl,hm,q1,q2⟩:=h;refine⟨_,aE (ax (eE (fX (aO de hr (aA (pv 0) aD))))
   (aE (dP))
   (aW)),?_⟩
 have sl:(5000:Nat)<=sizeLine:=by decide
 refine⟨_,rfl,n,rfl,_,rfl,?_⟩;by_cases h0:0<=n/\n<32
 .rw[bw h0];exact c9 (q1 h0)
 rw[cL h0];exact ig (q2 h0)
def kF:Sp:=λvs H Q E=>∃n lo hi:Int,vs=[.int n,.int lo,.int hi]/\Ru n/\Ru lo/\Ru hi/\(lo<=n/\n<=hi->Q .cX H)/\(¬(lo<=n/\n<=hi)->False)
def BM:aM ["number","least","most"] ["number","least","most"] (aH lM):=ac
def BN(F:aY K mg "look_bounds" lM)(T:Txt K mg t):ã P w K mg à 1 "look_bounds" ["number","least","most"] kF:=by
 refine F.eY BM λf bM A á s H vs Q E hr h=>?_;obtain⟨n,lo,hi,rfl,hn,hlo,hhi,q1,q2⟩:=h;refine⟨_,aE (ax (eE (o5 l9 l9 (pv 1) (pv 0) (pv 2)))
   (aE (dP))
   (aW)),?_⟩
 have sl:(5000:Nat)<=sizeLine:=by decide
 refine⟨_,rfl,_,rfl,_,_,rfl,rfl,_,rfl,?_⟩;by_cases h1:lo<=n
 .refine fe h1 ?_;refine⟨_,rfl,_,_,rfl,rfl,_,rfl,?_⟩;by_cases h2:n<=hi
  .rw[bw h2];exact c9 (q1 ⟨h1,h2⟩)
  rw[cL h2];exact ig (q2 λz=>h2 z.2)
 refine eT h1 ?_;exact⟨_,rfl,ig (q2 λz=>h1 z.1)⟩
def xf{α:Type}{l:List α}:l.reverse.Nodup↔l.Nodup:=by unfold List.Nodup;rw[List.pairwise_reverse];exact⟨λh=>h.imp λe z=>e z.symm,λh=>h.imp λe z=>e z.symm⟩
inductive kG(K:Ni)(vs:List V)(H:Hp)(Q:VK)(E:XK):Prop
 |mk (b:Bool) (l:JY) (ks:List ä) (m:Int) (_:vs=[.ref l,.int m]) (_:oQ b K H l (ks.map kV)) (_:ks.length<=1000) (_:0<=m) (_:m<=1000) (_:((ks.length:Int)<=m/\ks.Nodup->∀H',aI H H'->Q .cX H')) (_:(¬((ks.length:Int)<=m/\ks.Nodup)->False))
def BO:aM ["things","most"] ["things","most"] (aH lN):=ac
def BP(F:aY K mg "look_unlike" lN)(T:Txt K mg t):ã P w K mg à 1 "look_unlike" ["things","most"] (kG K):=by
 refine F.eY BO λf bM A á s H vs Q E hr h=>?_;obtain⟨b,l,ks,m,rfl,hl,hk,m0,m1,q1,q2⟩:=h;refine⟨_,aC (ax (bI x6 (cv K T.cS (pv 0)) (pv 1))
   (aE (dP))
   (aW))
  (aE (ax (bI rZ (bW (xJ P w) (by rfl) T.cS boot_len (aA (av (qp P w K) (by rfl) T.Mp boot_set (aA (pv 0) aD)) aD)) (cv K T.cS (pv 0)))
   (aE (dP))
   (aW))),?_⟩
 have sl:(5000:Nat)<=sizeLine:=by decide
 refine⟨_,rfl,l,_,rfl,hl.or,_,rfl,_,_,rfl,rfl,_,rfl,?_⟩;rw[aJ];have sb:2000<scanBound:=by decide
 by_cases h1:m<(ks.length:Nat)
 .exact fe h1 (q2 λr=>by have:=r.1;lia)
 refine eT h1 ?_;refine⟨_,rfl,l,ks,rfl,hl.or,by lia,λp hp=>?_⟩;have s1:=(aI.refl H).new (o:=yH P w p ks.reverse) hp;refine⟨p,_,rfl,aB,_,rfl,l,_,rfl,(hl.same s1).or,rfl,_,rfl,?_⟩;rw[aJ];by_cases h2:ks.Nodup
 .have e:=(o9 ks.reverse).mpr (xf.mpr h2);rw[rT]at e;refine ij (by rw[e]) ?_;exact q1 ⟨by lia,h2⟩ _ s1
 refine Gj (λe=>h2 (xf.mp ((o9 ks.reverse).mp (by have:=V.int.inj e;rw[rT];lia)))) ?_;exact q2 λr=>h2 r.2
def Let(c:Nat):Prop:=97<=c/\c<=122
instance (c:Nat):Decidable (Let c):=by unfold Let;infer_instance
def LY(cs:List Nat):Prop:=(1<=cs.length/\cs.length<=4)/\∀c∈cs,Let c
instance (cs:List Nat):Decidable (LY cs):=by unfold LY;infer_instance
def Qi(a b:Nat):([a]<[b])↔a<b:=by rw[Jo];simp
def aCD(c:Nat):(!decide ((⟨#[c]⟩:Str).cps.toList<("a":Str).cps.toList))=decide (97<=c):=by
 have e:((⟨#[c]⟩:Str).cps.toList<("a":Str).cps.toList)↔c<97:=Qi c 97;by_cases h:97<=c
 .rw[cL (λz=>by have:=e.mp z;lia),bw h];rfl
 rw[bw (e.mpr (by lia)),cL h];rfl
def aCE(c:Nat):(!decide (("z":Str).cps.toList<(⟨#[c]⟩:Str).cps.toList))=decide (c<=122):=by
 have e:(("z":Str).cps.toList<(⟨#[c]⟩:Str).cps.toList)↔122<c:=Qi 122 c;by_cases h:c<=122
 .rw[cL (λz=>by have:=e.mp z;lia),bw h];rfl
 rw[bw (e.mpr (by lia)),cL h];rfl
def BQ:Sp:=λvs H Q _=>∃cs:List Nat,vs=[.str (ai cs)]/\LY cs/\∀H',aI H H'->Q (.bl true) H'
def BR:aM ["text"] ["text"] (aH xR):=ac
def LZ(F:aY K mg "is_name" xR)(T:Txt K mg t):ã P w K mg à 1 "is_name" ["text"] BQ:=by
 refine F.eY BR λf bM A á s H vs Q E hr h=>?_;obtain⟨cs,rfl,ok,q⟩:=h;refine⟨_,aE (aQ (oy (uz l9 l9 aF (bW u9 (by rfl) T.cS boot_len (aA (pv 0) aD)) (aR T.CA)) (tf (bW (xE K rfl) (by rfl) T.QT boot_all (aA (j7 (Nc:=["letter"]) (ix:=[none]) BR (Pp (pv 0)) (λC fp s H=>⟨bN,(uz P1 P1 cE (pv 0) cE)⟩)) aD))))),?_⟩;have hsz:=bZ;have hl:=ok.1;refine⟨_,rfl,_,rfl,by rw[j5];lia,_,_,rfl,rfl,_,rfl,fe (by rw[j5];lia) ?_⟩;refine⟨_,_,rfl,rfl,_,rfl,fe (by rw[j5];lia) ?_⟩;refine⟨_,rfl,cs,rfl,λc hc=>by have:=(ok.2 c hc).2;lia,λD hD=>?_⟩;refine Pq (cs:=cs) (λi Z H'=>∃v:Option V,Z=[v]/\aI H H'/\H' D=some (.lst (((cs.take i).map λ_=>true).map V.bl))) ⟨none,rfl,(aI.refl _).new hD,aB⟩ ?_ ?_
 .rintro i c Z H' N hN hi ⟨v,rfl,s1,e1⟩;have hc:=ok.2 c (bL hi);refine cA ?_;refine⟨_,rfl,_,_,rfl,rfl,_,rfl,?_⟩;rw[aCD];refine fe hc.1 ⟨_,_,rfl,rfl,?_⟩;rw[aCE,bw hc.2];refine⟨_,e1,by rw[aJ,aJ,cc];lia,hN _ _ ⟨_,rfl,s1.put hD,?_⟩⟩;rw[aB,þ hi,bD,bD];rfl
 rintro Z H' ⟨v,rfl,s1,e1⟩;refine⟨D,_,rfl,aX.of e1,?_⟩;have e:(((cs.take cs.length).map λ_=>true).all id)=true:=by rw[List.all_map,og];exact λ_ _=>rfl
 show Q (.bl (((cs.take cs.length).map λ_=>true).all id)) H';rw[e];exact q _ s1
def qz(cs:List Nat):V:=.str (ai cs)
def Ih(ns:List (List Nat)):Prop:=ns.length<=4/\ns.Nodup/\∀n∈ns,LY n
def yT{a b:List Nat}(h:ai a=ai b):a=b:=by
 have:=az (λs:Str=>s.cps.toList) h
 simpa[ai]using this
def UB(ns:List (List Nat)):ns.map qz=(ns.map λcs=>(Sum.inr (ai cs):ä)).map kV:=by rw[bB];rfl
def Qj{ns:List (List Nat)}:(ns.map λcs=>(Sum.inr (ai cs):ä)).Nodup↔ns.Nodup:=by unfold List.Nodup;rw[gm];exact⟨λh=>h.imp λe z=>e (by rw[z]),λh=>h.imp λe z=>e (yT (Sum.inr.inj z))⟩
inductive sV(K:Ni)(vs:List V)(H:Hp)(Q:VK)(_:XK):Prop
 |mk (b:Bool) (l:JY) (ns:List (List Nat)) (_:vs=[.ref l]) (_:oQ b K H l (ns.map qz)) (_:Ih ns) (_:∀H',aI H H'->Q .cX H')
def sW:aM ["names","name"] ["names"] (aH nU):=ac
def CI(F:aY K mg "look_names" nU)(T:Txt K mg t)(eB:ã P w K mg à 1 "look_unlike" ["things","most"] (kG K))(xg:ã P w K mg à 1 "is_name" ["text"] BQ):ã P w K mg à 2 "look_names" ["names"] (sV K):=by
 refine F.eY sW λf bM A á s H vs Q E hr h=>?_;obtain⟨b,l,ns,rfl,hl,ok,q⟩:=h;refine⟨_,aC (bA (aO eB hr (aA (pv 0) (aA (aR T.IJ) aD))))
  (aE (cu (zG K (pv 0)) (bu 1 sW) (aE (ax (eE (fX (aO xg hr (aA (pv 1) aD))))
    (aE (dP))
    (aW))))),?_⟩
 have n4:=ok.1;refine⟨_,rfl,b,l,_,4,rfl,(UB ns▸hl),by rw[aJ];lia,by decide,by decide,λ_ H1 s1=>?_,λz=>z ⟨by rw[aJ];lia,Qj.mpr ok.2.1⟩⟩;have Hq:=hl.same s1;refine⟨_,rfl,b,l,_,rfl,Hq,Ek (b:=b) (K:=K) (a:=l) (xs:=ns.map qz) (λi Z H'=>∃x:Option V,Z=[some (.ref l),x]/\aI H1 H') ⟨none,rfl,aI.refl _⟩ (λi Z H' _ ⟨_,_,e⟩=>Hq.same e) ?_ ?_⟩
 .rintro i y Z H' hi ⟨x,rfl,s2⟩;rw[bh]at hi;obtain⟨n,hz,rfl⟩:=gk.mp hi;exact⟨_,rfl,n,rfl,ok.2.2 n (bL hz),λH2 s3=>⟨_,rfl,(show if(!true)=true then _ else _ from c9 ⟨_,rfl,s2.trans s3⟩)⟩⟩
 rintro Z H' ⟨x,rfl,s2⟩;exact q _ (s1.trans s2)
structure Wr where
 o:Int
 q:Int
 a:Int
 b:Int
def rP(w:Wr):PyData:=.tuple [.int w.o,.int w.q,.tuple [.int w.a,.int w.b]]
def BS(w:Wr):Prop:=Xp w.o/\(1<=w.q/\w.q<=10)/\(1<=w.a/\w.a<=9000)/\(1<=w.b/\w.b<=9000)
def WrS(w:Wr):Prop:=Ru w.o/\Ru w.q/\Ru w.a/\Ru w.b
def BS.sml{w:Wr}(h:BS w):WrS w:=⟨.of (by have:=h.1.1;lia) (by have:=h.1.2;lia),.of (by have:=h.2.1.1;lia) (by have:=h.2.1.2;lia),.of (by have:=h.2.2.1.1;lia) (by have:=h.2.2.1.2;lia),.of (by have:=h.2.2.2.1;lia) (by have:=h.2.2.2.2;lia)⟩
def BU{n:Nat}{i:Int}(h:ar K H n v (.int i)):v=.int i:=by cases h;rfl
def aCG{n:Nat}{x:Str}(h:ar K H n v (.str x)):v=.str x:=by cases h;rfl
def La{n:Nat}(h:ar K H (n+1) v (.tuple ds)):∃a xs,v=.ref a/\bO K H a xs/\xs.length=ds.length/\∀(i:Nat)(x:V)(d:PyData),xs[i]?=some x->ds[i]?=some d->ar K H n x d:=by
 cases h with
 |tup ha hl h=>exact⟨_,_,rfl,ha,hl,h⟩
def GR(K:Ni)(H:Hp)(v:V)(w:Wr):Prop:=ar K H 2 v (rP w)
def GR.out{w:Wr}(h:GR K H v w):∃a p,v=.ref a/\bO K H a [.int w.o,.int w.q,.ref p]/\bO K H p [.int w.a,.int w.b]:=by
 obtain⟨a,xs,rfl,h1,h2,h3⟩:=La h
 match xs,h2 with
 |[x,y,z],_ =>
  obtain rfl:=BU (h3 0 x _ rfl rfl);obtain rfl:=BU (h3 1 y _ rfl rfl);obtain⟨p,ys,rfl,g1,g2,g3⟩:=La (h3 2 z _ rfl rfl)
  match ys,g2 with
  |[x,y],_ =>
   obtain rfl:=BU (g3 0 x _ rfl rfl);obtain rfl:=BU (g3 1 y _ rfl rfl);exact⟨a,p,rfl,h1,g1⟩
def GR.mk{a p:JY}{w:Wr}(h1:bO K H a [.int w.o,.int w.q,.ref p])(h2:bO K H p [.int w.a,.int w.b]):GR K H (.ref a) w:=by
 refine .tup h1 rfl λi x d e1 e2=>?_
 match i with
 |0=>cases e1;cases e2;exact .int _
 |1=>cases e1;cases e2;exact .int _
 |2 =>
  cases e1;cases e2;refine .tup h2 rfl λi x d e1 e2=>?_
  match i with
  |0=>cases e1;cases e2;exact .int _
  |1=>cases e1;cases e2;exact .int _
  |i+2=>simp at e1
 |i+3=>simp at e1
inductive vi(K:Ni)(vs:List V)(H:Hp)(Q:VK)(E:XK):Prop
 |mk (v:V) (w:Wr) (_:vs=[v]) (_:GR K H v w) (_:WrS w) (_:(BS w->∀(r:JY) H',aI H H'->GR K H' (.ref r) w->Q (.ref r) H')) (_:(¬BS w->False))
def vj:aM ["wire","birth"] ["wire"] (aH pO):=ac
def FX(F:aY K mg "made_wire" pO)(T:Txt K mg t)(fP:ã P w K mg à 2 "look_house" ["number"] lU)(dC:ã P w K mg à 1 "look_bounds" ["number","least","most"] kF):ã P w K mg à 3 "made_wire" ["wire"] (vi K):=by
 refine F.eY vj λf bM A á s H vs Q E hr h=>?_;obtain⟨v,x,rfl,hw,hs,q1,q2⟩:=h;refine⟨_,aC (bA (aO fP hr (aA (ah (ay K) (pv 0) aF) aD)))
  (aC (bA (aO dC hr (aA (ah (ay K) (pv 0) aF) (aA aF (aA (aR T.IK) aD)))))
  (aC (cu (vG K (ah (ay K) (pv 0) aF)) (bu 1 vj) (aE (bA (aO dC hr (aA (pv 1) (aA aF (aA (aR T.IH) aD)))))))
  (aE (aQ (c5 (aA (ah (ay K) (pv 0) aF) (aA (ah (ay K) (pv 0) aF) (aA (av (cW K) (by rfl) T.gG i6 (aA (ah (ay K) (pv 0) aF) aD)) aD)))))))),?_⟩
 obtain⟨a,p,rfl,h1,h2⟩:=hw.out;refine⟨_,rfl,a,_,_,_,rfl,rfl,h1,rfl,x.o,rfl,hs.1,λg1=>?_,λg1=>q2 λz=>g1 z.1⟩;refine⟨_,rfl,a,_,_,_,rfl,rfl,h1,rfl,x.q,1,10,rfl,hs.2.1,.of (by decide) (by decide),.of (by decide) (by decide),λg2=>?_,λg2=>q2 λz=>g2 z.2.1⟩;refine⟨_,rfl,a,_,_,_,rfl,rfl,h1,rfl,p,rfl,⟨_,h2⟩,y6 (K:=K) (a:=p) (xs:=[.int x.a,.int x.b]) (λi Z H'=>∃v:Option V,Z=[some (.ref a),v]/\H'=H/\(1<=i->1<=x.a/\x.a<=9000)/\(2<=i->1<=x.b/\x.b<=9000)) ⟨none,rfl,rfl,λz=>by lia,λz=>by lia⟩ (λi Z H' _ ⟨_,_,e,_⟩=>by rw[e];exact h2) ?_ ?_⟩
 .rintro i y Z H' hi ⟨v,rfl,rfl,k1,k2⟩
  match i,hi with
  |0,hi =>
   cases hi;refine⟨_,rfl,x.a,1,9000,rfl,hs.2.2.1,.of (by decide) (by decide),.of (by decide) (by decide),λg=>⟨_,rfl,rfl,λ_=>g,λz=>by lia⟩,λg=>q2 λz=>g z.2.2.1⟩
  |1,hi =>
   cases hi;refine⟨_,rfl,x.b,1,9000,rfl,hs.2.2.2,.of (by decide) (by decide),.of (by decide) (by decide),λg=>⟨_,rfl,rfl,λ_=>k1 (by lia),λ_=>g⟩,λg=>q2 λz=>g z.2.2.2⟩
  |i+2,hi=>simp at hi
 rintro Z H' ⟨v,rfl,rfl,k1,k2⟩;refine⟨_,rfl,a,_,_,_,rfl,rfl,h1,rfl,_,rfl,a,_,_,_,rfl,rfl,h1,rfl,_,rfl,a,_,_,_,rfl,rfl,h1,rfl,p,_,rfl,.inr ⟨h2,?_⟩⟩;refine⟨ô,λr wN=>?_⟩;have s1:=(aI.refl H').new (o:=.tup [.int x.o,.int x.q,.ref p]) wN;exact q1 ⟨g1,g2,k1 (by show 1<=2;decide),k2 (by show 2<=2;decide)⟩ r _ s1 (.mk (.inl (.inl aB)) (s1.tup h2))
def W8{g:TG}{tt:TT}{te:TE}{Z:L2.St}{b:Bool}{a:JY}(Pv:Nat->L2.St->Hp->Prop)(h0:Pv 0 Z H)(hl:∀i Z H,i<=xs.length->Pv i Z H->oQ b K H a xs)(hs:∀(i:Nat)(x:V)(Z:L2.St)(H:Hp)(N:L2.St->Hp->Prop),(∀Z H,Pv (i+1) Z H->N Z H)->xs[i]?=some x->Pv i Z H->g x Z H (Lb tt te D N))(hd:∀Z H,Pv xs.length Z H->Q (.ref D) H):oP (Y2 b K a xs) g tt te D Z H Q:=by refine yA xs.length Pv h0 (λi Z H N hN lt p=>⟨⟨hl i Z H (gT lt) p,lt⟩,?_⟩) λZ H p=>⟨⟨hl _ Z H (ae _) p,ae _⟩,hd Z H p⟩;rintro x H' ⟨rfl,y⟩;exact hs i x Z _ N hN y p
def FY{α:Type}(lt:α->α->Bool)(x:α):List α->List α
 |[]=>[x]
 |y::r=>if lt y x=true then y::FY lt x r else x::y::r
def aCH{α:Type}(lt:α->α->Bool)(l:List α):List α:=l.foldl (λÿ x=>FY lt x ÿ) []
def rA{α:Type}{lt:α->α->Bool}{x:α}:∀l:List α,(FY lt x l).Perm (x::l)
 |[]=>.refl _
 |y::r=>by
  unfold FY;split
  .exact((rA r).cons y).trans (.swap x y r)
  exact .refl _
def DK{α:Type}{lt:α->α->Bool}{S:α->Prop}(rN:∀a b,S a->S b->lt a b=true->lt b a=false)(zI:∀a b c,S a->S b->S c->lt b a=false->lt c b=false->lt c a=false){x:α}(hx:S x):
  ∀l:List α,(∀y∈l,S y)->l.Pairwise (λa b=>lt b a=false)->(FY lt x l).Pairwise (λa b=>lt b a=false)
 |[],_,_=>List.pairwise_singleton _ _
 |y::r,hl,h=>by
  obtain⟨h1,h2⟩:=uq.mp h;have hy:=hl y bp;unfold FY;split
  .rename_i c;refine uq.mpr ⟨λz hz=>?_,DK rN zI hx r (λz hz=>hl z (bU _ hz)) h2⟩;rcases au.mp ((rA r).mem_iff.mp hz)with rfl|hz
   .exact rN _ _ hy hx c
   exact h1 z hz
  rename_i c;have c:lt y x=false:=by simpa using c
  refine uq.mpr ⟨λz hz=>?_,h⟩;rcases au.mp hz with rfl|hz
  .exact c
  exact zI x y z hx hy (hl z (bU _ hz)) c (h1 z hz)
def Mx{α:Type}{lt:α->α->Bool}{S:α->Prop}(rN:∀a b,S a->S b->lt a b=true->lt b a=false)(zI:∀a b c,S a->S b->S c->lt b a=false->lt c b=false->lt c a=false):
  ∀(l ÿ:List α),(∀y∈l,S y)->(∀y∈ÿ,S y)->ÿ.Pairwise (λa b=>lt b a=false)->(l.foldl (λÿ x=>FY lt x ÿ) ÿ).Perm (ÿ++l)/\(l.foldl (λÿ x=>FY lt x ÿ) ÿ).Pairwise (λa b=>lt b a=false)
 |[],ÿ,_,_,h=>⟨by rw[tT];exact .refl _,h⟩
 |x::l,ÿ,hl,ha,h=>by have hx:=hl x bp;have:=Mx rN zI l (FY lt x ÿ) (λy hy=>hl y (bU _ hy)) (λy hy=>(au.mp ((rA ÿ).mem_iff.mp hy)).elim (λe=>e▸hx) (ha y)) (DK rN zI hx ÿ ha h);refine⟨this.1.trans (((rA ÿ).append_right l).trans ?_),this.2⟩;exact List.perm_middle.symm
def sD(ds:List PyData):List PyData:=aCH cZ ds
def fD(O:yh ds):(sD ds).Perm ds/\(sD ds).Pairwise (λa b=>cZ b a=false) :=
 Mx (lt:=cZ) (S:=(·∈ds)) (λa b ha hb=>O.rN a ha b hb) (λa b c ha hb hc=>O.zI a ha b hb c hc) ds [] (λ_ h=>h) (λ_ h=>absurd h bE) .nil
def xh(O:yh ds)(ant:∀d∈ds,∀e∈ds,cZ d e=false->cZ e d=false->d=e)(hp:es.Perm ds)(hs:es.Pairwise (λa b=>cZ b a=false)):es=sD ds :=
 DS (le:=λa b=>cZ b a=false) (λa b ha hb h1 h2=>ant a (hp.mem_iff.mp ha) b ((fD O).1.mem_iff.mp hb) h2 h1) hs (fD O).2 (hp.trans (fD O).1.symm)
def zN{α:Type}{κ:Type}[LT κ][DecidableLT κ](asy:∀a b:κ,a<b->¬b<a)(zI:∀a b c:κ,¬b<a->¬c<b->¬c<a){key:α->κ}{f:α->PyData}(hk:∀x y,cZ (f x) (f y)=decide (key x<key y))(ok:∀x y,B3 (f x) (f y)=true){l:List α}(kd:U5 (l.map f)):yh (l.map f)where
 kd:=kd
 ok:=λd hd e he=>by obtain⟨x,_,rfl⟩:=ao.mp hd;obtain⟨y,_,rfl⟩:=ao.mp he;exact ok x y
 rN:=λd hd e he h=>by obtain⟨x,_,rfl⟩:=ao.mp hd;obtain⟨y,_,rfl⟩:=ao.mp he;rw[hk,uo]at h;rw[hk,zU];exact asy _ _ h
 zI:=λd hd e he g hg h1 h2=>by obtain⟨x,_,rfl⟩:=ao.mp hd;obtain⟨y,_,rfl⟩:=ao.mp he;obtain⟨z,_,rfl⟩:=ao.mp hg;rw[hk,zU]at h1 h2 ⊢;exact zI _ _ _ h1 h2
def OO(w:Wr):List Int:=[w.o,w.q,w.a,w.b]
def Qk(v w:Wr):cZ (rP v) (rP w)=decide (OO v<OO w):=by obtain⟨o,q,a,b⟩:=v;obtain⟨o',q',a',b'⟩:=w;simp only[rP,OO,cZ,vK,PyData.eqv,PyData.eqvAll,Jo];by_cases h1:o=o'<;>by_cases h2:q=q'<;>by_cases h3:a=a'<;>by_cases h4:b=b'<;>simp[h1,h2,h3,h4]
def W9(v w:Wr):B3 (rP v) (rP w)=true:=by simp[rP,B3,El]
def Av(ws:List Wr):yh (ws.map rP):=zN (κ:=List Int) (λa b h=>zx h) (λa b c h1 h2=>jr.mpr (List.le_trans (jr.mp h1) (jr.mp h2))) Qk W9 (.rows λd hd=>by obtain⟨w,_,rfl⟩:=ao.mp hd;exact⟨_,_,rfl⟩)
def Zr(ws:List Wr):∀d∈ws.map rP,∀e∈ws.map rP,cZ d e=false->cZ e d=false->d=e:=by intro d hd e he h1 h2;obtain⟨v,_,rfl⟩:=ao.mp hd;obtain⟨w,_,rfl⟩:=ao.mp he;rw[Qk,zU]at h1 h2;have k:OO v=OO w:=List.le_antisymm (jr.mp h2) (jr.mp h1);obtain⟨o,q,a,b⟩:=v;obtain⟨o',q',a',b'⟩:=w;simp only[OO,jK,fV]at k;obtain⟨rfl,rfl,rfl,rfl⟩:=k;rfl
def xi(cs:List Nat):PyData:=.str (ai cs)
def Ql(m n:List Nat):cZ (xi m) (xi n)=decide (m<n):=by simp[xi,cZ,ai]
def Qm(ns:List (List Nat)):yh (ns.map xi):=zN (κ:=List Nat) (key:=id) (λa b h=>zx h) (λa b c h1 h2=>jr.mpr (List.le_trans (jr.mp h1) (jr.mp h2))) Ql (λx y=>by simp[xi,B3]) (.strs λd hd=>by obtain⟨w,_,rfl⟩:=ao.mp hd;exact⟨_,rfl⟩)
def Zs(ns:List (List Nat)):∀d∈ns.map xi,∀e∈ns.map xi,cZ d e=false->cZ e d=false->d=e:=by intro d hd e he h1 h2;obtain⟨v,_,rfl⟩:=ao.mp hd;obtain⟨w,_,rfl⟩:=ao.mp he;rw[Ql,zU]at h1 h2;rw[show v=w from List.le_antisymm (jr.mp h2) (jr.mp h1)]
def xj(house:Int)(ws:List Wr):Prop:=(∀w∈ws,BS w)/\ws.length<=5/\(ws.map (·.o)).Nodup/\house∉ws.map (·.o)
def yU{ws vs:List Wr}(h:vs.Perm ws):xj house vs↔xj house ws:=by unfold xj;rw[h.length_eq,(h.map (·.o)).nodup_iff,(h.map (·.o)).mem_iff];exact⟨λz=>⟨λw hw=>z.1 w (h.mem_iff.mpr hw),z.2⟩,λz=>⟨λw hw=>z.1 w (h.mem_iff.mp hw),z.2⟩⟩
def GR.same{K:Ni}{H H':Hp}{v:V}{w:Wr}(h:GR K H v w)(s:aI H H'):GR K H' v w:=ar.same h s
def qJ(K:Ni)(H:Hp)(zs:List (V×Wr)):Prop:=∀z∈zs,GR K H z.1 z.2
def qJ.same{K:Ni}{H H':Hp}{zs:List (V×Wr)}(h:qJ K H zs)(s:aI H H'):qJ K H' zs:=λz hz=>(h z hz).same s
def qJ.tup{K:Ni}{H:Hp}{zs:List (V×Wr)}{a:JY}(h:qJ K H zs)(ha:bO K H a (zs.map (·.1))):ar K H 3 (.ref a) (.tuple (zs.map λz=>rP z.2)):=by
 refine .tup ha (by simp) λi x d e1 e2=>?_;rw[bh]at e1 e2;cases e:zs[i]? with
 |none=>rw[e]at e1;cases e1
 |some z=>rw[e]at e1 e2;cases e1;cases e2;exact h z (bL e)
def perm_back{α β:Type}(g:α->β){l m:List β}(h:l.Perm m):∀zs:List α,m=zs.map g->∃us:List α,us.Perm zs/\l=us.map g:=by
 induction h with
 |nil=>intro zs e;cases zs with
  |nil=>exact⟨[],.refl _,rfl⟩
  |cons z r=>cases e
 |cons x _ ih=>intro zs e;cases zs with
  |nil=>cases e
  |cons z r =>
   obtain⟨e1,e2⟩:=i5 e;obtain⟨us,h1,h2⟩:=ih r e2;exact⟨z::us,h1.cons z,by rw[bz,<-h2,e1]⟩
 |swap x y l=>intro zs e;cases zs with
  |nil=>cases e
  |cons z r=>cases r with
   |nil=>cases e
   |cons z2 r =>
    obtain⟨e1,e2⟩:=i5 e;obtain⟨e3,e4⟩:=i5 e2;exact⟨z2::z::r,.swap z z2 r,by rw[bz,bz,<-e4,e1,e3]⟩
 |trans _ _ ih1 ih2 =>
  intro zs e;obtain⟨us,h1,h2⟩:=ih2 zs e;obtain⟨vs,h3,h4⟩:=ih1 us h2;exact⟨vs,h3.trans h1,h4⟩
def Qn{o:HO}(h:H D=some (.lst xs)):ù H (ü H D o):=λa ys e=>by
 have ne:a≠D:=by rintro rfl;rcases e with e|⟨u,e⟩<;>(rw[h]at e;cases e)
 rcases e with e|⟨u,e⟩
 .exact .inl (by rw[aN ne];exact e)
 exact .inr ⟨u,by rw[aN ne];exact e⟩
def Qo(w:Wr):MX (rP w)=true:=by simp[rP,MX,iH]
def GR.kept{K:Ni}{H H':Hp}{v:V}{w:Wr}(h:GR K H v w)(k:ù H H'):GR K H' v w:=ar.kept h k (Qo w)
def qJ.kept{K:Ni}{H H':Hp}{zs:List (V×Wr)}(h:qJ K H zs)(k:ù H H'):qJ K H' zs:=λz hz=>(h z hz).kept k
def BV(ns:List Int):ns.map V.int=(ns.map Sum.inl).map kV:=by rw[bB];rfl
def xk:(ns.map (Sum.inl:Int->ä)).Nodup↔ns.Nodup:=by unfold List.Nodup;rw[gm];exact⟨λh=>h.imp λe z=>e (by rw[z]),λh=>h.imp λe z=>e (Sum.inl.inj z)⟩
def qK(n:Int)(ns:List Int):EW (.int n) (ns.map V.int)=decide (n∈ns):=by
 unfold EW;rw[jq,EE,rY,uo];constructor
 .rintro⟨x,hx,h⟩;have:x=n:=by simpa[Bv]using h
  exact this▸hx
 intro h;exact⟨n,h,by simp[Bv]⟩
inductive vk(K:Ni)(vs:List V)(H:Hp)(Q:VK)(E:XK):Prop
 |mk (b:Bool) (l:JY) (zs:List (V×Wr)) (house:Int) (_:vs=[.int house,.ref l]) (_:oQ b K H l (zs.map (·.1))) (_:qJ K H zs) (_:zs.length<=50) (_:(∀z∈zs,WrS z.2)) (_:(xj house (zs.map (·.2))->∀(r:JY)(H':Hp),aI H H'->ar K H' 3 (.ref r) (.tuple (sD ((zs.map (·.2)).map rP)))->Q (.ref r) H')) (_:(¬xj house (zs.map (·.2))->False))
def jb:aM ["house","near","wires","others"] ["house","near"] (aH pP):=ac
def FZ(F:aY K mg "made_near" pP)(T:Txt K mg t)(qL:ã P w K mg à 3 "made_wire" ["wire"] (vi K))(eB:ã P w K mg à 1 "look_unlike" ["things","most"] (kG K)):ã P w K mg à 4 "made_near" ["house","near"] (vk K):=by
 refine F.eY jb λf bM A á s H vs Q E hr h=>?_;obtain⟨b,l,zs,house,rfl,hl,hw,hn,hs,q1,q2⟩:=h;refine⟨_,aC (aV 2 jb (bW (kf K (dU hr)) (by rfl) T.hJ me (aA (j7 (Nc:=["wire"]) (ix:=[none]) jb (zG K (pv 1)) (λC fp s H=>⟨bN,(aO qL hr (aA (pv 0) aD))⟩)) aD)))
  (aC (yI 3 (Nc:=["wire"]) (ix:=[none]) jb (bH K (pv 2)) (λC fp s H=>⟨bN,(ah (ay K) (pv 0) aF)⟩))
  (aC (bA (aO eB hr (aA (pv 3) (aA (aR T.LJ) aD))))
  (aC (ax (jR Cv (pv 0) (pv 3) (by rfl))
   (aE (dP))
   (aW))
  (aE (aQ (av (cW K) (by rfl) T.gG i6 (aA (pv 2) aD))))))),?_⟩
 have hsz:=bZ;refine⟨_,rfl,b,l,_,rfl,hl,λD hD=>?_⟩;refine W8 (b:=b) (K:=K) (a:=l) (xs:=zs.map (·.1)) (λi Z H'=>∃(v:Option V)(us:List (V×Wr)),Z=[v]/\aI H H'/\H' D=some (.lst (us.map (·.1)))/\qJ K H' us/\us.map (·.2)=(zs.take i).map (·.2)/\∀z∈zs.take i,BS z.2)
  ⟨none,[],rfl,(aI.refl _).new hD,aB,λz hz=>absurd hz bE,rfl,λz hz=>absurd hz bE⟩ (λi Z H' _ h_=>by obtain⟨_,_,_,s1,_⟩:=h_;exact hl.same s1) ?_ ?_
 .rintro i x Z H' N hN hi ⟨v,us,rfl,s1,e1,hu,TC,hg⟩;rw[bh]at hi;cases ez:zs[i]? with
  |none=>rw[ez]at hi;cases hi
  |some z =>
   rw[ez]at hi;obtain rfl:z.1=x:=bR hi;have hm:z∈zs:=bL ez;have Sn:i<zs.length:=(bq.mp ez).1;refine cA ?_;refine⟨_,rfl,z.1,z.2,rfl,(hw z hm).same s1,hs z hm,λg r H2 s2 wa=>?_,λg=>?_⟩
   .have hu1:us.length=i:=by have:=az List.length TC;rw[aJ,aJ,cc]at this;lia
    refine⟨_,s2 _ _ e1,by rw[aJ];lia,hN _ _ ⟨_,us++[(.ref r,z.2)],rfl,(s1.trans s2).put hD,by rw[aB,bD];rfl,λy hy=>?_,?_,λy hy=>?_⟩⟩
    .have kp:=Qn (o:=.lst (us.map (·.1)++[V.ref r])) (s2 _ _ e1);rcases cH.mp hy with h|h
     .exact((hu y h).same s2).kept kp
     rw[bX.mp h];exact wa.kept kp
    .rw[þ ez,bD,bD,TC];rfl
    rw[þ ez]at hy;rcases cH.mp hy with h|h
    .exact hg y h
    rw[bX.mp h];exact g
   exact(q2 λz'=>g (z'.1 _ (ao.mpr ⟨z,hm,rfl⟩))).elim
 rintro Z H' ⟨v,us,rfl,s1,e1,hu,TC,hg⟩;rw[aJ]at TC hg;rw[eV]at TC hg;have hul:us.length=zs.length:=by
  have:=az List.length TC
  rwa [aJ,aJ]at this
 refine⟨true,D,us.map λz=>(z.1,rP z.2),rfl,by rw[bB];exact aX.of e1,by rw[aJ];lia,λy hy=>?_,?_,λys r hp JT wN=>?_⟩
 .obtain⟨z,hz,rfl⟩:=ao.mp hy;exact ar.up (hu z hz) (by decide)
 .have:=Av (us.map (·.2));rw[bB]at this ⊢;exact this
 obtain⟨vs,Tz,rfl⟩:=perm_back (λz:V×Wr=>(z.1,rP z.2)) hp us rfl;have hvl:vs.length=zs.length:=Tz.length_eq.trans hul;have hvp:(vs.map (·.2)).Perm (zs.map (·.2)):=by rw[<-TC];exact Tz.map _
 have es:vs.map (λz=>rP z.2)=sD ((zs.map (·.2)).map rP):=by
  refine xh (Av _) (Zr _) ?_ ?_
  .have:=hvp.map rP;rw[bB]at this;exact this
  rw[gm]at JT ⊢;exact JT
 have s2:=s1.new (o:=.lst ((vs.map λz=>(z.1,rP z.2)).map (·.1))) wN;have e2:(ü H' r (.lst ((vs.map λz=>(z.1,rP z.2)).map (·.1)))) r=some (.lst (vs.map (·.1))):=by rw[aB,bB];rfl
 have OP:qJ K (ü H' r (.lst ((vs.map λz=>(z.1,rP z.2)).map (·.1)))) vs:=λz hz=>(hu z (Tz.mem_iff.mp hz)).same ((aI.refl H').new wN);generalize ü H' r (.lst ((vs.map λz=>(z.1,rP z.2)).map (·.1)))=H1 at s2 e2 OP ⊢;refine⟨_,rfl,r,rfl,⟨_,aX.of e2⟩,λD2 Bx=>?_⟩;refine iR (K:=K) (a:=r) (xs:=vs.map (·.1)) (λi Z H2=>∃v:Option V,Z=[v]/\aI H1 H2/\H2 D2=some (.lst (((vs.take i).map (·.2.o)).map V.int))) ⟨none,rfl,(aI.refl _).new Bx,aB⟩ (λi Z H2 _ ⟨_,_,s3,_⟩=>aX.of (s3 _ _ e2)) ?_ ?_
 .rintro i x Z H2 N hN hi ⟨v,rfl,s3,e3⟩;rw[bh]at hi;cases ez:vs[i]? with
  |none=>rw[ez]at hi;cases hi
  |some z =>
   rw[ez]at hi;obtain rfl:z.1=x:=bR hi;have hm:z∈vs:=bL ez;have Sn:i<vs.length:=(bq.mp ez).1;obtain⟨a,p,ea,h1,h2⟩:=((OP z hm).same s3).out;refine cA ?_;refine⟨_,rfl,a,_,_,_,ea,rfl,h1,rfl,_,e3,by rw[aJ,aJ,cc];lia,hN _ _ ⟨_,rfl,s3.put Bx,?_⟩⟩;rw[aB,þ ez,bD,bD];rfl
 rintro Z H2 ⟨v,rfl,s3,e3⟩;rw[aJ,eV]at e3;have eo:vs.map (·.2.o)=(vs.map (·.2)).map (·.o):=by rw[bB];rfl
 rw[eo]at e3;have hNO:=yU (house:=house) hvp;have all:∀x∈vs.map (·.2),BS x:=λx hx=>by have:=hvp.mem_iff.mp hx;obtain⟨z,hz,rfl⟩:=ao.mp this;exact hg z hz
 have lc:((vs.map (·.2)).map (·.o)).length=zs.length:=by rw[aJ,aJ];exact hvl
 refine⟨_,rfl,true,D2,((vs.map (·.2)).map (·.o)).map Sum.inl,5,rfl,by rw[<-BV];exact aX.of e3,by rw[aJ];lia,by decide,by decide,?_,?_⟩
 .rw[aJ,xk];rintro⟨k1,k2⟩ H3 s4;refine⟨_,rfl,_,rfl,D2,_,rfl,.inl (aX.of (s4 _ _ e3)),rfl,jm _,_,rfl,?_⟩;show if(EW (.int house) (((vs.map (·.2)).map (·.o)).map V.int))=true then _ else _;rw[qK];by_cases hh:house∈(vs.map (·.2)).map (·.o)
  .refine fe hh ?_;exact q2 λz=>(hNO.mpr z).2.2.2 hh
  refine eT hh ?_;refine⟨_,rfl,r,_,rfl,.inl ⟨aX.of (s4 _ _ (s3 _ _ e2)),λp uE=>?_⟩⟩;have s5:=(aI.refl H3).new (o:=.tup (vs.map (·.1))) uE;refine q1 (hNO.mp ⟨all,by rw[aJ];rw[aJ,aJ]at k1;lia,k2,hh⟩) p _ ((s2.trans (s3.trans s4)).trans s5) ?_;rw[<-es];exact qJ.tup (OP.same ((s3.trans s4).trans s5)) (.inl (.inl aB))
 rw[aJ,xk];intro hb;exact q2 λz=>hb (by have:=hNO.mpr z;exact⟨by have:=this.2.1;rw[aJ]at this ⊢;rw[aJ];lia,this.2.2.1⟩)
structure Nw where
 h:Int
 n:Int
 near:List Wr
 names:List (List Nat)
def CJ(N:Nw):Prop:=Xp N.h/\(0<=N.n/\N.n<=900000)/\xj N.h N.near/\Ih N.names
def VG(N:Nw):PyData:=.tuple [.int N.h,.int N.n,.tuple (sD (N.near.map rP)),.tuple (sD (N.names.map xi))]
inductive n9(K:Ni)(vs:List V)(H:Hp)(Q:VK)(_:XK):Prop
 |mk (b c:Bool) (l m:JY) (zs:List (V×Wr)) (N:Nw) (_:vs=[.int N.h,.int N.n,.ref l,.ref m]) (_:oQ b K H l (zs.map (·.1))) (_:qJ K H zs) (_:zs.map (·.2)=N.near) (_:oQ c K H m (N.names.map qz)) (_:CJ N) (_:∀(r:JY)(H':Hp),aI H H'->ar K H' 4 (.ref r) (VG N)->Q (.ref r) H')
def Ii{n:List Nat}(h:∀c∈n,c<128):PyData.strOk (ai n)=true:=by unfold PyData.strOk ai;simp only[List.all_toArray,og,tN];intro c hc;have:=h c hc;lia
def Fb:aM ["house","number","near","names"] ["house","number","near","names"] (aH pQ):=ac
def Fc(F:aY K mg "made_news" pQ)(T:Txt K mg t)(fP:ã P w K mg à 2 "look_house" ["number"] lU)(dC:ã P w K mg à 1 "look_bounds" ["number","least","most"] kF)(oA:ã P w K mg à 2 "look_names" ["names"] (sV K))(qM:ã P w K mg à 4 "made_near" ["house","near"] (vk K)):ã P w K mg à 5 "made_news" ["house","number","near","names"] (n9 K):=by
 refine F.eY Fb λf bM A á s H vs Q E hr h=>?_;obtain⟨b,c,l,m,zs,N,rfl,hl,hw,hzn,hm,ok,q1⟩:=h;refine⟨_,aC (bA (aO fP hr (aA (pv 0) aD)))
  (aC (bA (aO dC hr (aA (pv 1) (aA aF (aA (aR T.FD) aD)))))
  (aC (bA (aO oA hr (aA (pv 3) aD)))
  (aE (aQ (c5 (aA (pv 0) (aA (pv 1) (aA (aO qM hr (aA (pv 0) (aA (pv 2) aD))) (aA (av (cW K) (by rfl) T.gG i6 (aA (bW (kf K (dU hr)) (by rfl) T.hJ me (aA (pv 3) aD)) aD)) aD))))))))),?_⟩
 have hsz:=bZ;obtain⟨g1,g2,g4,g3⟩:=ok;have hg:0<=N.h/\N.h<32:=g1;have hz:zs.length<=5:=by have:=g4.2.1;rw[<-hzn,aJ]at this;exact this
 have hnl:=g3.1;have hna:∀n∈N.names,∀c∈n,c<128:=λn hn c hc=>by have:=((g3.2.2 n hn).2 c hc).2;lia
 refine⟨_,rfl,N.h,rfl,.of (by lia) (by lia),λ_=>?_,λz=>z g1⟩;refine⟨_,rfl,N.n,0,900000,rfl,.of (by lia) (by lia),.of (by decide) (by decide),.of (by decide) (by decide),λ_=>?_,λz=>z g2⟩;refine⟨_,rfl,c,m,N.names,rfl,hm,g3,λH1 s1=>?_⟩;refine⟨_,rfl,_,rfl,_,rfl,_,rfl,b,l,zs,N.h,rfl,hl.same s1,hw.same s1,by lia,λz Wg=>(g4.1 _ (by rw[<-hzn];exact ao.mpr ⟨z,Wg,rfl⟩)).sml,λ_ r H2 s2 d2=>?_,λz=>z (by rw[hzn];exact g4)⟩;rw[hzn]at d2;have Zt:=(hm.same s1).same s2;refine⟨_,rfl,c,m,N.names.map λn=>(qz n,xi n),rfl,by rw[bB];exact Zt,by rw[aJ];lia,λy hy=>?_,by have:=Qm N.names;rw[bB];exact this,λys p hp JT uE=>?_⟩
 .obtain⟨n,hn,rfl⟩:=ao.mp hy;exact .str _ (Ii (hna n hn))
 obtain⟨us,hu1,rfl⟩:=perm_back (λn=>(qz n,xi n)) hp N.names rfl;have es:us.map xi=sD (N.names.map xi):=by refine xh (Qm _) (Zs _) (hu1.map _) ?_;rw[gm]at JT ⊢;exact JT
 have hul:us.length<=4:=by rw[hu1.length_eq];exact hnl
 have s3:=(aI.refl H2).new (o:=.lst ((us.map λn=>(qz n,xi n)).map (·.1))) uE;have e3:(ü H2 p (.lst ((us.map λn=>(qz n,xi n)).map (·.1)))) p=some (.lst (us.map qz)):=by rw[aB,bB];rfl
 generalize ü H2 p (.lst ((us.map λn=>(qz n,xi n)).map (·.1)))=H3 at s3 e3 ⊢;refine⟨p,_,rfl,.inl ⟨aX.of e3,λx hx=>?_⟩⟩;have s4:=(aI.refl H3).new (o:=.tup (us.map qz)) hx;have d4:ar K (ü H3 x (.tup (us.map qz))) 3 (.ref x) (.tuple (sD (N.names.map xi))):=by
  rw[<-es];refine .tup (.inl (.inl aB)) (by simp) λi y d e1 e2=>?_;rw[bh]at e1 e2;cases e:us[i]? with
  |none=>rw[e]at e1;cases e1
  |some n =>
   rw[e]at e1 e2;cases e1;cases e2;exact .str _ (Ii (hna n (hu1.mem_iff.mp (bL e))))
 have d5:=(d2.same s3).same s4;generalize ü H3 x (.tup (us.map qz))=H4 at s4 d4 d5 ⊢;refine⟨zz4,λy hy=>?_⟩;have s5:=(aI.refl H4).new (o:=.tup [.int N.h,.int N.n,.ref r,.ref x]) hy;refine q1 y _ ((((s1.trans s2).trans s3).trans s4).trans s5) ?_;refine .tup (.inl (.inl aB)) rfl λi v d e1 e2=>?_
 match i with
 |0=>cases e1;cases e2;exact .int _
 |1=>cases e1;cases e2;exact .int _
 |2=>cases e1;cases e2;exact d5.same s5
 |3=>cases e1;cases e2;exact d4.same s5
 |i+4=>simp at e1
def Xq(N:Nw):PyData:=.tuple [.int N.h,.int N.n,.tuple (N.near.map rP),.tuple (N.names.map xi)]
def Fd(K:Ni)(H:Hp)(v:V)(N:Nw):Prop:=ar K H 4 v (Xq N)
def Fe:∀{ds:List PyData},(∀d∈ds,MX d=true)->iH ds=true
 |[],_=>by simp[iH]
 |d::ds,h=>by rw[iH,h d bp,Fe λx hx=>h x (bU _ hx)];rfl
def XA(N:Nw):MX (Xq N)=true:=by
 have h1:iH (N.near.map rP)=true:=Fe λd hd=>by obtain⟨w,_,rfl⟩:=ao.mp hd;exact Qo w
 have h2:iH (N.names.map xi)=true:=Fe λd hd=>by obtain⟨w,_,rfl⟩:=ao.mp hd;simp[xi,MX]
 simp[Xq,MX,iH,h1,h2]
def Fd.kept{K:Ni}{H H':Hp}{v:V}{N:Nw}(h:Fd K H v N)(k:ù H H'):Fd K H' v N:=ar.kept h k (XA N)
def Fd.same{K:Ni}{H H':Hp}{v:V}{N:Nw}(h:Fd K H v N)(s:aI H H'):Fd K H' v N:=ar.same h s
def Fd.out{N:Nw}(h:Fd K H v N):∃a p q zs,v=.ref a/\bO K H a [.int N.h,.int N.n,.ref p,.ref q]/\bO K H p (zs.map (·.1))/\qJ K H zs/\zs.map (·.2)=N.near/\bO K H q (N.names.map qz):=by
 obtain⟨a,xs,rfl,h1,h2,h3⟩:=La h
 match xs,h2 with
 |[x,y,z,w],_ =>
  obtain rfl:=BU (h3 0 x _ rfl rfl);obtain rfl:=BU (h3 1 y _ rfl rfl);obtain⟨p,ys,rfl,g1,g2,g3⟩:=La (h3 2 z _ rfl rfl);obtain⟨q,ks,rfl,k1,k2,k3⟩:=La (h3 3 w _ rfl rfl);rw[aJ]at g2 k2;have hk:ks=N.names.map qz:=by refine oo (by rw[aJ];exact k2) λi i1 i2=>?_;rw[aJ]at i2;have:=aCG (k3 i ks[i] (xi N.names[i]) (by simp) (by simp[i2]));rw[this];simp[qz]
  subst hk;refine⟨a,p,q,ys.zip N.near,rfl,h1,?_,λz hz=>?_,?_,k1⟩
  .rw[List.map_fst_zip (AA g2)];exact g1
  .obtain⟨i,hi,rfl⟩:=eU hz;rw[List.length_zip]at hi;rw[List.getElem_zip];have j1:=fS hi (Nat.min_le_right _ _);exact g3 i _ _ (by simp) (by simp[j1])
  rw[List.map_snd_zip (AA g2.symm)]
abbrev Ms:=List (V×Nw)
def GS(m:V×Nw):ä×V:=(Sum.inl m.2.h,m.1)
def hs(ms:Ms):List Int:=ms.map (·.2.h)
def rQ(ms:Ms)(v:V)(N:Nw):Ms:=if N.h∈hs ms then ms.map (λm=>if m.2.h=N.h then(v,N)else m)else ms++[(v,N)]
def BW(ms:Ms)(N:Nw):Prop:=∀m∈ms,m.2.h=N.h->m.2.n<N.n
def Qp(ms:Ms)(h:Int):uD (ms.map GS) (Sum.inl h)=(ms.find? λm=>decide (m.2.h=h)).map (·.1):=by
 unfold uD;rw[List.find?_map,Option.map_map];have e:((λkv:ä×V=>decide (kv.1=Sum.inl h))∘GS)=λm:V×Nw=>decide (m.2.h=h):=by
  funext m
  simp[GS]
 rw[e];rfl
def Zu(ms:Ms)(v:V)(N:Nw):io (ms.map GS) (Sum.inl N.h) v=(rQ ms v N).map GS:=by
 unfold io rQ;have e:((ms.map GS).any λkv=>decide (kv.1=Sum.inl N.h))=decide (N.h∈hs ms):=by
  rw[EE,jq,rY,uo];unfold hs;rw[ao];constructor
  .rintro⟨m,hm,h⟩;exact⟨m,hm,by simpa[GS]using h⟩
  rintro⟨m,hm,h⟩;exact⟨m,hm,by simp[GS,h]⟩
 rw[e];by_cases h:N.h∈hs ms
 .rw[aL (by simpa using h),aL h,bB,bB];refine iY λm _=>?_;show(if(GS m).1=Sum.inl N.h then((GS m).1,v)else GS m)=GS (if m.2.h=N.h then(v,N)else m);by_cases c:m.2.h=N.h
  .rw[aL c,aL (by simp[GS,c])];simp[GS,c]
  rw[aK c,aK (by simp[GS,c])]
 rw[aK (by simpa using h),aK h,bD];rfl
def UC(ms:Ms)(v:V)(N:Nw):hs (rQ ms v N)=if N.h∈hs ms then hs ms else hs ms++[N.h]:=by
 unfold rQ;by_cases h:N.h∈hs ms
 .rw[aL h,aL h];unfold hs;rw[bB];refine iY λm _=>?_;show(if m.2.h=N.h then(v,N)else m).2.h=m.2.h;split
  .rename_i c;exact c.symm
  rfl
 rw[aK h,aK h];unfold hs;rw[bD];rfl
def Lc{ms:Ms}(hn:(hs ms).Nodup)(v:V)(N:Nw):(hs (rQ ms v N)).Nodup:=by
 rw[UC];split
 .exact hn
 rename_i h;refine uv.mpr ⟨hn,by simp,λa ha b hb=>?_⟩;rw[bX.mp hb];rintro rfl;exact h ha
def Ij{ms:Ms}{N:Nw}{m:V×Nw}:m∈rQ ms v N->m=(v,N)\/m∈ms:=by
 unfold rQ;split
 .intro h;obtain⟨x,hx,e⟩:=ao.mp h;split at e
  .exact .inl e.symm
  exact .inr (e▸hx)
 intro h;rcases cH.mp h with h|h
 .exact .inr h
 exact .inl (bX.mp h)
structure i0(K:Ni)(C:JY)(H:Hp)(x d:JY)(ms:Ms):Prop where
 o:∃dx,H x=some (.ins C dx [("latest",.ref d)])
 d:H d=some (.dK (ms.map GS))
 nd:(hs ms).Nodup
 all:∀m∈ms,Fd K H m.1 m.2
def i0.ne{x d:JY}{ms:Ms}(h:i0 K C H x d ms):x≠d:=by obtain⟨dx,h1⟩:=h.o;exact xy h1 h.d (by intro z;cases z)
def i0.same{K:Ni}{C:JY}{H H':Hp}{x d:JY}{ms:Ms}(h:i0 K C H x d ms)(s:aI H H'):i0 K C H' x d ms :=
 ⟨let⟨dx,h1⟩:=h.o;⟨dx,s _ _ h1⟩,s _ _ h.d,h.nd,λm hm=>(h.all m hm).same s⟩
def vm(H:Hp)(a:JY):Prop:=∀xs,¬Rd H a (.tup xs)
def cB.kept(m:cB S H H')(n:∀a∈S,vm H a):ù H H':=λa xs e=>by
 have hn:a∉S:=λz=>n a z xs e;rcases e with e|⟨u,e⟩
 .exact .inl (m _ _ hn e)
 exact .inr ⟨u,m _ _ hn e⟩
def vm.dk{a:JY}{xs:List (ä×V)}(h:H a=some (.dK xs)):vm H a:=λys e=>by rcases e with e|⟨u,e⟩<;>(rw[h]at e;cases e)
def i0.mods{x d:JY}{ms:Ms}(h:i0 K C H x d ms)(m:cB S H H')(n1:x∉S)(n2:d∉S)(n:∀a∈S,vm H a):i0 K C H' x d ms :=
 ⟨let⟨dx,h1⟩:=h.o;⟨dx,m _ _ n1 h1⟩,m _ _ n2 h.d,h.nd,λy hy=>(h.all y hy).kept (m.kept n)⟩
def Ff(K:Ni)(C:JY):Sp:=λvs H Q _=>∃x dx,vs=[.ref x]/\H x=some (.ins C dx [])/\∀(l:JY)(H':Hp),H l=none->cB [x] H H'->i0 K C H' x l []->Q .cX H'
def UD:aM ["self"] ["self"] (aH LD):=ac
def UE(T:Txt K mg t)(F:vA K "__init__" "Map.__init__" LD t.init fd):cn P w K mg à (oV P w) 1 t.init fd ["self"] (Ff K t.Map)/\ú K fd ["self"] []:=by
 refine⟨F.G8 UD (λvs H Q E h=>?_) (λf bM A á s H vs Q E hr h=>?_),F.binds λ_ _ _ _ _ _=>ad λ_=>rfl⟩
 .obtain⟨x,dx,rfl,_⟩:=h;rfl
 obtain⟨x,dx,rfl,hx,q⟩:=h;refine⟨_,aE (Eg K (pv 0) Pl (by rfl)),?_⟩;refine λl hl=>?_;have n:x≠l:=aP hx hl;refine⟨_,rfl,x,t.Map,dx,_,rfl,by rw[aN n];exact hx,T.jB,T.iJ,by show 0<1000;decide,?_⟩;exact q l _ hl ((cB.refl.upd (.inr hl)).upd (.inl bp)) ⟨⟨dx,aB⟩,by rw[aN (bS n)];exact aB,.nil,λm hm=>absurd hm bE⟩
inductive Fg(K:Ni)(C:JY)(vs:List V)(H:Hp)(Q:VK)(_:XK):Prop
 |mk (x d:JY) (ms:Ms) (v:V) (N:Nw) (_:vs=[.ref x,v]) (_:i0 K C H x d ms) (_:Fd K H v N) (_:ms.length<=100) (_:(BW ms N->∀H',cB [d] H H'->i0 K C H' x d (rQ ms v N)->Q (.bl true) H')) (_:(¬BW ms N->Q (.bl false) H))
def Fh:aM ["self","news","house","newer"] ["self","news"] (aH LG):=ac
def UG(T:Txt K mg t)(F:vA K "hear" "Map.hear" LG t.xU fd):cn P w K mg à (oV P w) 1 t.xU fd ["self","news"] (Fg K t.Map)/\ú K fd ["self","news"] []:=by
 refine⟨F.G8 Fh (λvs H Q E h=>?_) (λf bM A á s H vs Q E hr h=>?_),F.binds λ_ _ _ _ _ _=>bm λ_ _=>rfl⟩
 .obtain⟨x,d,ms,v,N,rfl,_⟩:=h;rfl
 obtain⟨x,d,ms,v,N,rfl,hM,hN,hl,q1,q2⟩:=h;refine⟨_,aC (aV 2 Fh (ah (ay K) (pv 1) aF))
  (aC (aV 3 Fh (X8 (Vi (xF (ie hr) (pv 2) (nC K (pv 0) (by rfl))) (by rfl)) (tf (dY x6 (ah (ay K) (pv 1) aF) (ah (ay K) (iT (ie hr) (nC K (pv 0) (by rfl)) (pv 2) (λ_ _=>rfl)) aF) (iF _)))))
  (aC (ax (fX (pv 3))
   (aE (MR (ie hr) (nC K (pv 0) (by rfl)) (pv 2) (pv 1) (by rfl)))
   (aW))
  (aE (aQ (pv 3))))),?_⟩
 have hsz:=bZ;obtain⟨dx,hx⟩:=hM.o;obtain⟨a,p,r,zs,rfl,h1,_⟩:=hN.out;have put:BW ms N->∃H',cB [d] H H'/\H'=ü H d (.dK (io (ms.map GS) (Sum.inl N.h) (.ref a)))/\i0 K t.Map H' x d (rQ ms (.ref a) N):=λ_=>by
  have m:cB [d] H (ü H d (.dK (io (ms.map GS) (Sum.inl N.h) (.ref a)))):=cB.refl.upd (.inl bp);have kp:=m.kept λb hb=>by rw[bX.mp hb];exact vm.dk hM.d
  refine⟨_,m,rfl,⟨dx,by rw[aN hM.ne];exact hx⟩,by rw[aB,Zu],Lc hM.nd _ _,λy hy=>?_⟩;rcases Ij hy with rfl|h
  .exact hN.kept kp
  exact(hM.all y h).kept kp
 refine⟨_,rfl,a,_,_,_,rfl,rfl,h1,rfl,?_⟩;refine⟨_,rfl,_,rfl,x,t.Map,dx,_,_,rfl,hx,T.jB,T.iJ,rfl,d,_,rfl,gg.k (k:=Sum.inl N.h) hM.d,?_⟩;rw[Qp];cases ef:ms.find? (λm=>decide (m.2.h=N.h))with
 |none =>
  have yc:BW ms N:=λm hm e=>absurd (wR.mp ef m hm) (by simp[e]);obtain⟨H',m,eH,Qq⟩:=put yc;refine⟨true,rfl,ig ?_⟩;refine⟨_,rfl,_,rfl,ig ?_⟩;refine⟨_,rfl,_,rfl,x,t.Map,dx,_,_,rfl,hx,T.jB,T.iJ,rfl,_,rfl,d,_,rfl,.inl ⟨_,Sum.inl N.h,hM.d,rfl,by rw[aJ];lia,rfl⟩,?_⟩;refine⟨_,rfl,?_⟩;rw[<-eH];exact q1 yc H' m Qq
 |some y =>
  have hy:y∈ms:=zT ef;have hyh:y.2.h=N.h:=by simpa using oq ef
  obtain⟨ya,yp,yq,yz,ey,y1,_⟩:=(hM.all y hy).out;have gv:gg H d (.int N.h) (some y.1):=by have:=gg.k (k:=Sum.inl N.h) hM.d;rw[Qp,ef]at this;exact this
  have yc:BW ms N↔y.2.n<N.n:=by
   constructor
   .exact λz=>z y hy hyh
   intro z m hm e;have:m=y:=by
    obtain⟨i,hi,rfl⟩:=eU hm;obtain⟨j,hj,rfl⟩:=eU hy;have:i=j:=by have nd:=hM.nd;unfold hs at nd;have:=(oM (xs:=ms.map (·.2.h)) (h₀:=by simpa using hi) (h₁:=by simpa using hj) nd).mp (by simp[e,hyh]);exact this
    subst this;rfl
   rw[this];exact z
  refine⟨false,rfl,c9 ?_⟩;refine⟨_,rfl,a,_,_,_,rfl,rfl,h1,rfl,_,rfl,x,t.Map,dx,_,_,rfl,hx,T.jB,T.iJ,rfl,_,rfl,d,y.1,rfl,gv,ya,_,_,_,ey,rfl,y1,rfl,_,_,rfl,rfl,?_⟩;refine⟨_,rfl,_,rfl,?_⟩;by_cases jz:y.2.n<N.n
  .obtain⟨H',m,eH,Qq⟩:=put (yc.mpr jz);refine fe jz ?_;refine⟨_,rfl,_,rfl,x,t.Map,dx,_,_,rfl,hx,T.jB,T.iJ,rfl,_,rfl,d,_,rfl,.inl ⟨_,Sum.inl N.h,hM.d,rfl,by rw[aJ];lia,rfl⟩,?_⟩;refine⟨_,rfl,?_⟩;rw[<-eH];show Q (.bl (decide (y.2.n<N.n))) H';rw[bw jz];exact q1 (yc.mpr jz) H' m Qq
  refine eT jz ?_;refine⟨_,rfl,?_⟩;show Q (.bl (decide (y.2.n<N.n))) H;rw[cL jz];exact q2 λz=>jz (yc.mp z)
def pk(ms:Ms)(h:Int):V×Nw:=(ms.find? λm=>decide (m.2.h=h)).getD (.cX,⟨0,0,[],[]⟩)
def Ld{ms:Ms}{h:Int}(hh:h∈hs ms):∃y,ms.find? (λm=>decide (m.2.h=h))=some y/\y∈ms/\y.2.h=h/\pk ms h=y:=by
 obtain⟨m,hm,e⟩:=ao.mp hh;cases ef:ms.find? (λm=>decide (m.2.h=h))with
 |none=>exact absurd (wR.mp ef m hm) (by simp[e])
 |some y=>exact⟨y,rfl,zT ef,by simpa using oq ef,by unfold pk;rw[ef];rfl⟩
def zO{ms:Ms}(nd:(hs ms).Nodup){m n:V×Nw}(hm:m∈ms)(hn:n∈ms)(e:m.2.h=n.2.h):m=n:=by obtain⟨i,hi,rfl⟩:=eU hm;obtain⟨j,hj,rfl⟩:=eU hn;unfold hs at nd;have:=(oM (xs:=ms.map (·.2.h)) (h₀:=by simpa using hi) (h₁:=by simpa using hj) nd).mp (by simp[e]);subst this;rfl
def XB{ms:Ms}(nd:(hs ms).Nodup):(hs ms).map (pk ms)=ms:=by
 unfold hs;rw[bB];have:ms.map (pk ms∘λm=>m.2.h)=ms.map id:=iY λm hm=>by obtain⟨y,_,h2,h3,h4⟩:=Ld (ms:=ms) (h:=m.2.h) (ao.mpr ⟨m,hm,rfl⟩);show pk ms m.2.h=m;rw[h4];exact zO nd h2 hm h3
 rw[this,AF]
inductive rB(K:Ni)(C:JY)(vs:List V)(H:Hp)(Q:VK)(_:XK):Prop
 |mk (x d:JY) (ms:Ms) (_:vs=[.ref x]) (_:i0 K C H x d ms) (_:ms.length<=50) (_:∀(r:JY)(H':Hp)(us:Ms),aI H H'->H r=none->H' r=some (.lst (us.map (·.1)))->us.Perm ms->(hs us).Pairwise (·<·)->Q (.ref r) H')
def Mz:aM ["self"] ["self"] (aH LH):=ac
def UH(T:Txt K mg t)(F:vA K "news" "Map.news" LH t.ni fd):cn P w K mg à (oV P w) 1 t.ni fd ["self"] (rB K t.Map)/\ú K fd ["self"] []:=by
 refine⟨F.G8 Mz (λvs H Q E h=>?_) (λf bM A á s H vs Q E hr h=>?_),F.binds λ_ _ _ _ _ _=>ad λ_=>rfl⟩
 .obtain⟨x,d,ms,rfl,_⟩:=h;rfl
 obtain⟨x,d,ms,rfl,hM,hl,q⟩:=h;refine⟨_,aE (aQ (j7 (Nc:=["house","self"]) (ix:=[none,some 0]) Mz (bH K (bW (jV (dU hr)) (by rfl) T.hJ me (aA (nC K (pv 0) (by rfl)) aD))) (λC fp s H=>⟨bN,(iT (ie hr) (nC K (pv 1) (by rfl)) (pv 0) (λ_ _=>rfl))⟩))),?_⟩;have hsz:=bZ;obtain⟨dx,hx⟩:=hM.o;refine⟨_,rfl,x,t.Map,dx,_,_,rfl,hx,T.jB,T.iJ,rfl,d,_,hs ms,rfl,hM.d,by rw[bB];unfold hs;rw[bB];rfl,by unfold hs;rw[aJ];lia,λys sl hp JT Rv=>?_⟩;obtain⟨H1,ja,s1,e1⟩:=nL (aI.refl H) (o:=.lst (ys.map V.int)) Rv;rw[ja];have hyl:ys.length<=50:=by rw[hp.length_eq];unfold hs;rw[aJ];exact hl
 refine⟨sl,rfl,⟨_,aX.of e1⟩,λD hD=>?_⟩;refine iR (K:=K) (a:=sl) (xs:=ys.map V.int) (λi Z H'=>∃v:Option V,Z=[v,some (.ref x)]/\aI H1 H'/\H' D=some (.lst (((ys.take i).map (pk ms)).map (·.1)))) ⟨none,rfl,(aI.refl _).new hD,aB⟩ (λi Z H' _ ⟨_,_,s2,_⟩=>aX.of (s2 _ _ e1)) ?_ ?_
 .rintro i y Z H' N hN hi ⟨v,rfl,s2,e2⟩;obtain⟨h,ho,rfl⟩:=dH hi;have Sn:i<ys.length:=(bq.mp ho).1;obtain⟨y,ef,hy,hyh,ep⟩:=Ld (hp.mem_iff.mp (bL ho));have gv:gg H' d (.int h) (some y.1):=by have:=gg.k (k:=Sum.inl h) ((s1.trans s2) _ _ hM.d);rw[Qp,ef]at this;exact this
  refine cA ?_;refine⟨_,rfl,x,t.Map,dx,_,_,rfl,(s1.trans s2) _ _ hx,T.jB,T.iJ,rfl,_,rfl,d,y.1,rfl,gv,_,e2,by rw[aJ,aJ,cc];lia,hN _ _ ⟨_,rfl,s2.put hD,?_⟩⟩;rw[aB,þ ho,bD,bD,<-ep];rfl
 rintro Z H' ⟨v,rfl,s2,e2⟩;rw[aJ,eV]at e2;have pm:(ys.map (pk ms)).Perm ms:=by
  have:=hp.map (pk ms)
  rwa [XB hM.nd]at this
 refine q D H' (ys.map (pk ms)) (s1.trans s2) (s1.free hD) e2 pm ?_;have eh:hs (ys.map (pk ms))=ys:=by
  unfold hs;rw[bB];have:ys.map ((λm=>m.2.h)∘pk ms)=ys.map id:=iY λh hh=>by obtain⟨y,_,_,h3,h4⟩:=Ld (hp.mem_iff.mp hh);show(pk ms h).2.h=h;rw[h4];exact h3
  rw[this,AF]
 rw[eh];have nd:ys.Nodup:=hp.nodup_iff.mpr hM.nd;exact(JT.and nd).imp λ⟨a,b⟩=>by lia
abbrev T3:=Int×Int×Int
def JU(t:T3):PyData:=.tuple [.int t.1,.int t.2.1,.int t.2.2]
def cD(us:Ms):List (Tk×Int):=us.flatMap λm=>m.2.near.map λw=>([m.2.h,w.o,w.a,w.b],w.q)
def mR(L:List (Tk×Int))(k:Tk):Option Int:=(L.find? λe=>decide (e.1=k)).map (·.2)
def jE(L:List (Tk×Int))(e:Tk×Int):Option T3 :=
 match e.1 with
 |[h,o,a,b]=>if h<o then(mR L [o,h,a,b]).map λq=>(h,o,if q>e.2 then q else e.2)else none
 |_=>none
def Qr(L:List (Tk×Int)):List T3:=L.filterMap (jE L)
def fE(ms:Ms)(t:T3):Prop:=t.1<t.2.1/\∃m1∈ms,∃m2∈ms,∃w1∈m1.2.near,∃w2∈m2.2.near,m1.2.h=t.1/\m2.2.h=t.2.1/\w1.o=t.2.1/\w2.o=t.1/\w1.a=w2.a/\w1.b=w2.b/\t.2.2=max w1.q w2.q
def vn(ms:Ms):Prop:=∀m∈ms,(m.2.near.map (·.o)).Nodup/\m.2.near.length<=5
def kH{us:Ms}{e:Tk×Int}:e∈cD us↔∃m∈us,∃w∈m.2.near,e=([m.2.h,w.o,w.a,w.b],w.q):=by
 unfold cD;rw[List.mem_flatMap];constructor
 .rintro⟨m,hm,h⟩;obtain⟨w,hw,e⟩:=ao.mp h;exact⟨m,hm,w,hw,e.symm⟩
 rintro⟨m,hm,w,hw,e⟩;exact⟨m,hm,ao.mpr ⟨w,hw,e.symm⟩⟩
def DL{us:Ms}(nd:(hs us).Nodup)(ok:vn us):(cD us).Pairwise λe f=>(e.1.take 2)≠(f.1.take 2):=by
 unfold cD;rw[List.pairwise_flatMap];constructor
 .intro m hm;have:=(ok m hm).1;unfold List.Nodup at this;rw[gm]at this ⊢;refine this.imp λh e=>h ?_;simp only[List.take_succ_cons,zm,jK,fV]at e;exact e.2
 unfold hs List.Nodup at nd;rw[gm]at nd;refine nd.imp λh x hx y hy e=>?_;obtain⟨w,_,rfl⟩:=ao.mp hx;obtain⟨v,_,rfl⟩:=ao.mp hy;simp only[List.take_succ_cons,zm,jK,fV]at e;exact h e.1
def flat_keys{us:Ms}(nd:(hs us).Nodup)(ok:vn us):((cD us).map (·.1)).Nodup:=by unfold List.Nodup;rw[gm];exact(DL nd ok).imp λh e=>h (by rw[e])
def fF(nd:(L.map (·.1)).Nodup){k:Tk}{q:Int}:mR L k=some q↔(k,q)∈L:=by
 unfold mR;rw[gk];constructor
 .rintro⟨e,h1,rfl⟩;have:=zT h1;have h2:e.1=k:=by simpa using oq h1
  rw[<-h2];exact this
 intro h;cases ef:L.find? (λe=>decide (e.1=k))with
 |none=>exact absurd (wR.mp ef _ h) (by simp)
 |some e =>
  refine⟨e,rfl,?_⟩;have h1:=zT ef;have h2:e.1=k:=by simpa using oq ef
  obtain⟨i,hi,ei⟩:=eU h1;obtain⟨j,hj,ej⟩:=eU h;have:=(oM (xs:=L.map (·.1)) (h₀:=by simpa using hi) (h₁:=by simpa using hj) nd).mp (by simp[ei,ej,h2]);subst this;rw[ei]at ej;rw[ej]
def UI{us:Ms}(nd:(hs us).Nodup)(ok:vn us){t:T3}:t∈Qr (cD us)↔fE us t:=by
 unfold Qr;rw[Dg];have kn:=flat_keys nd ok;constructor
 .rintro⟨e,he,h⟩;obtain⟨m,hm,w,hw,rfl⟩:=kH.mp he;unfold jE at h;simp only at h;split at h
  .rename_i jz;obtain⟨q,hq,rfl⟩:=gk.mp h;obtain⟨m2,Zt,w2,hw2,e2⟩:=kH.mp ((fF kn).mp hq);simp only[Prod.mk.injEq,jK,fV]at e2;obtain⟨⟨e3,e4,e5,e6⟩,e7⟩:=e2;refine⟨jz,m,hm,m2,Zt,w,hw,w2,hw2,rfl,e3.symm,rfl,e4.symm,e5,e6,?_⟩;show(if q>w.q then q else w.q)=max w.q w2.q;rw[e7];split<;>lia
  cases h
 rintro⟨jz,m,hm,m2,Zt,w,hw,w2,hw2,e1,e2,e3,e4,e5,e6,e7⟩;refine⟨([m.2.h,w.o,w.a,w.b],w.q),kH.mpr ⟨m,hm,w,hw,rfl⟩,?_⟩;unfold jE;simp only;rw[aL (by rw[e1,e3];exact jz)];have:mR (cD us) [w.o,m.2.h,w.a,w.b]=some w2.q:=(fF kn).mpr (kH.mpr ⟨m2,Zt,w2,hw2,by rw[e2,e3,e4,e1,e5,e6]⟩);rw[this];show some (m.2.h,w.o,if w2.q>w.q then w2.q else w.q)=some t;obtain⟨a,b,l⟩:=t;simp only at e1 e3 e7;rw[e1,e3,e7]
 congr 3
 split<;>lia
def Qs{us:Ms}(nd:(hs us).Nodup)(ok:vn us):(Qr (cD us)).Pairwise λs t=>(s.1,s.2.1)≠(t.1,t.2.1):=by
 unfold Qr;rw[List.pairwise_filterMap];refine(DL nd ok).imp_of_mem λ{e f} he hf h b hb b' Pc z=>h ?_;obtain⟨m,_,w,_,rfl⟩:=kH.mp he;obtain⟨m',_,w',_,rfl⟩:=kH.mp hf;unfold jE at hb Pc;simp only at hb Pc;split at hb
 .split at Pc
  .obtain⟨q,_,rfl⟩:=gk.mp hb;obtain⟨q',_,rfl⟩:=gk.mp Pc;simp only[Prod.mk.injEq]at z;simp[z.1,z.2]
  cases Pc
 cases hb
def Qt{us:Ms}(ok:vn us):(cD us).length<=5*us.length:=by
 induction us with
 |nil=>exact ae _
 |cons m us ih =>
  have h1:=(ok m bp).2;have h2:=ih λx hx=>ok x (bU _ hx);unfold cD at h2 ⊢;rw[Dk,bV,aJ,cQ];lia
def mS(t:T3):List Int:=[t.1,t.2.1,t.2.2]
def VH(s t:T3):cZ (JU s) (JU t)=decide (mS s<mS t):=by obtain⟨o,q,a⟩:=s;obtain⟨o',q',a'⟩:=t;simp only[JU,mS,cZ,vK,PyData.eqv,PyData.eqvAll,Jo];by_cases h1:o=o'<;>by_cases h2:q=q'<;>by_cases h3:a=a'<;>simp[h1,h2,h3]
def aCO(ts:List T3):yh (ts.map JU):=zN (κ:=List Int) (λa b h=>zx h) (λa b c h1 h2=>jr.mpr (List.le_trans (jr.mp h1) (jr.mp h2))) VH (λs t=>by simp[JU,B3,El]) (.rows λd hd=>by obtain⟨w,_,rfl⟩:=ao.mp hd;exact⟨_,_,rfl⟩)
def Qu{s t:T3}(h:mS s=mS t):s=t:=by obtain⟨a,b,c⟩:=s;obtain⟨a',b',c'⟩:=t;simp only[mS,jK,fV]at h;rw[h.1,h.2.1,h.2.2]
def Ik{ts us:List T3}(h1:ts.Pairwise λs t=>mS s<mS t)(h2:us.Pairwise λs t=>mS s<mS t)(h:∀t,t∈ts↔t∈us):ts=us:=by
 have irr:∀t:T3,¬mS t<mS t:=λt=>List.lt_irrefl _;have nn:∀l:List T3,(l.Pairwise λs t=>mS s<mS t)->l.Nodup:=λl h=>by unfold List.Nodup;refine h.imp λ{s t} z=>?_;rintro rfl;exact irr _ z
 have n1:=nn ts h1;have n2:=nn us h2;have p:=(aAi n1 n2).mpr h;refine DS (le:=λs t=>mS s<mS t) (λa b _ _ x y=>absurd y (zx x)) h1 h2 p
def Il(K:Ni)(H:Hp)(zs:List (V×T3)):Prop:=∀z∈zs,ar K H 2 z.1 (JU z.2)
def Qv(t:T3):MX (JU t)=true:=by simp[JU,MX,iH]
def Il.same{K:Ni}{H H':Hp}{zs:List (V×T3)}(h:Il K H zs)(s:aI H H'):Il K H' zs:=λz hz=>(h z hz).same s
def Qw(K:Ni)(H:Hp)(r:JY)(ts:List T3):Prop:=∃zs:List (V×T3),H r=some (.lst (zs.map (·.1)))/\Il K H zs/\zs.map (·.2)=ts
def Qw.same{K:Ni}{H H':Hp}{r:JY}{ts:List T3}(h:Qw K H r ts)(s:aI H H'):Qw K H' r ts:=by obtain⟨zs,h1,h2,h3⟩:=h;exact⟨zs,s _ _ h1,h2.same s,h3⟩
def gM{o:HO}(h:vm H D):ù H (ü H D o):=(cB.refl (S:=[D]) (H:=H)).upd (.inl bp) |>.kept λb hb=>by rw[bX.mp hb];exact h
def vm.UJ{a:JY}{xs:TX}(h:H a=some (jP a xs)):vm H a:=λys e=>by rcases e with e|⟨u,e⟩<;>(rw[h]at e;cases e)
def vm.lst{a:JY}(h:H a=some (.lst xs)):vm H a:=λys e=>by rcases e with e|⟨u,e⟩<;>(rw[h]at e;cases e)
def vm.dz{a:JY}{xs:TX}{u:HO}(ok:Ks a xs u)(h:H a=some u):vm H a:=λys e=>by obtain⟨_,_,_,vs,es,ep,_,_,rfl⟩:=ok;rcases e with e|⟨u,e⟩<;>(rw[h]at e;cases e)
def xm{xs:TX}(h:xs.map (λp=>(p.1,p.2.2))=L.map λe=>(e.1,V.int e.2))(k:Tk):ir xs k=(mR L k).map V.int:=by
 induction xs generalizing L with
 |nil =>
  cases L with
  |nil=>rfl
  |cons _ _=>cases h
 |cons p xs ih =>
  cases L with
  |nil=>cases h
  |cons e L =>
   rw[bz,bz]at h;obtain⟨h1,h2⟩:=i5 h;obtain⟨h3,h4⟩:=tY h1;have:=ih h2;unfold ir mR at this ⊢;rw[ia,ia,<-h3];by_cases c:p.1=k
   .simp[c,h4]
   simp only[c,decide_false];exact this
def M0{xs:TX}(h:xs.map (λp=>(p.1,p.2.2))=L.map λe=>(e.1,V.int e.2)):xs.map (·.1)=L.map (·.1):=by have:=az (List.map (·.1)) h;rw[bB,bB]at this;exact this
def BX(a b:Ms):cD (a++b)=cD a++cD b:=by unfold cD;rw[Ju]
def fW(m:V×Nw)(w:Wr):Tk×Int:=([m.2.h,w.o,w.a,w.b],w.q)
def Im(m:V×Nw):cD [m]=m.2.near.map (fW m):=by unfold cD fW;simp
def Le{us:Ms}{j:Nat}{m:V×Nw}{x:Wr}(hi:us[i]?=some m)(hj:m.2.near[j]?=some x):∃R,cD us=(cD (us.take i)++(m.2.near.take j).map (fW m))++fW m x::R:=by
 refine⟨(m.2.near.drop (j+1)).map (fW m)++cD (us.drop (i+1)),?_⟩;obtain⟨i1,i2⟩:=bq.mp hi;obtain⟨j1,j2⟩:=bq.mp hj;have e1:us=us.take i++m::us.drop (i+1):=by rw[<-i2,Jh,Jj]
 have e2:m.2.near=m.2.near.take j++x::m.2.near.drop (j+1):=by rw[<-j2,Jh,Jj]
 have e3:m.2.near.map (fW m)=(m.2.near.take j).map (fW m)++fW m x::(m.2.near.drop (j+1)).map (fW m):=by rw[<-bz,<-bD,<-e2]
 have e4:cD us=cD (us.take i)++(m.2.near.map (fW m)++cD (us.drop (i+1))):=by rw[<-Im,<-BX,<-BX];exact az cD (by rw[List.singleton_append];exact e1)
 rw[e4,e3];simp only[jH,Du]
inductive vo(K:Ni)(C:JY)(vs:List V)(H:Hp)(Q:VK)(_:XK):Prop
 |mk (x d:JY) (ms:Ms) (_:vs=[.ref x]) (_:i0 K C H x d ms) (_:ms.length<=12) (_:vn ms) (_:∀(r:JY)(H':Hp)(ts:List T3),aI H H'->H r=none->Qw K H' r ts->(∀t,t∈ts↔fE ms t)->(ts.Pairwise λs t=>mS s<mS t)->ts.length<=60->Q (.ref r) H')
def cy:aM ["self","told","house","number","near","names","other","quiet","pair","standing","back"] ["self"] (aH E9):=ac
def Qx(T:Txt K mg t)(F:vA K "wires" "Map.wires" E9 t.nj fd)(fG:cn P w K mg à (oV P w) 1 t.ni fn ["self"] (rB K t.Map))(fH:ú K fn ["self"] []):cn P w K mg à (oV P w) 2 t.nj fd ["self"] (vo K t.Map)/\ú K fd ["self"] []:=by
 refine⟨F.G8 cy (λvs H Q E h=>?_) (λf bM A á s H vs Q E hr h=>?_),F.binds λ_ _ _ _ _ _=>ad λ_=>rfl⟩
 .obtain⟨x,d,ms,rfl,_⟩:=h;rfl
 obtain⟨x,d,ms,rfl,hM,hl,cI,q⟩:=h;refine⟨_,aC (aV 1 cy Ep)
  (aC (cu (bH K (dv (pv 0) T.jB T.nu (fG.mono (by decide)) hr fH .nil eG)) (wq rfl (b9 (bu 2 cy) (b9 (bu 3 cy) (b9 (bu 4 cy) (b9 (bu 5 cy) qg))))) (aE (tu oh rfl (vG K (pv 4)) (wq rfl (b9 (bu 6 cy) (b9 (bu 7 cy) (b9 (bu 8 cy) qg))))
    (aE (zK K (dU hr) (pv 1) (c5 (aA (pv 2) (aA (pv 6) (aA (pv 8) aD)))) (pv 7) (by rfl))))))
  (aC (aV 9 cy (bJ aD))
  (aC (cu (jh (pv 1)) (wq rfl (b9 (bu 2 cy) (b9 (bu 6 cy) (b9 (bu 8 cy) qg)))) (aC (aV 10 cy (c5 (aA (pv 6) (aA (pv 2) (aA (pv 8) aD)))))
   (aE (ax (PW.pt (J6 (bI kZ (pv 2) (pv 6)) (EN (jR (Ss K (dU hr)) (pv 10) (pv 1) (by rfl)))))
    (aE (bA (ff K oa xt xr fK (pv 9) (aA (c5 (aA (pv 2) (aA (pv 6) (aA (bW (Cq rfl) (by rfl) T.VD boot_max (aA (kg K (dU hr) (pv 1) (c5 (aA (pv 2) (aA (pv 6) (aA (pv 8) aD)))) (λ_ _=>rfl)) (aA (kg K (dU hr) (pv 1) (pv 10) (λ_ _=>rfl)) aD))) aD)))) aD))))
    (aW)))))
  (aE (aQ (bW (kf K (dU hr)) (by rfl) T.hJ me (aA (pv 9) aD))))))),?_⟩
 have hsz:=bZ;refine λtd UK=>?_;obtain⟨H1,ja,s1,e1⟩:=nL (aI.refl H) (o:=jP td []) UK;rw[ja];obtain⟨dx,hx⟩:=hM.o;refine⟨_,rfl,x,dx,_,rfl,s1 _ _ hx,rfl,x,d,ms,rfl,hM.same s1,by lia,λr H2 us s2a _ e2 pm XC=>?_⟩;have s2:=s1.trans s2a;have ndu:(hs us).Nodup:=(show(hs us).Perm (hs ms)from pm.map _).nodup_iff.mpr hM.nd;have oku:vn us:=λm hm=>cI m (pm.mem_iff.mp hm);have kn:=flat_keys ndu oku;have fl:=Qt oku;have ul:us.length<=12:=by rw[pm.length_eq];exact hl
 have nat:∀m∈us,Fd K H m.1 m.2:=λm hm=>hM.all m (pm.mem_iff.mp hm);have etd:H2 td=some (jP td []):=s2a _ _ e1
 let I1:Nat->_->_->Prop:=λi Z H'=>∃(xs:TX)(v2 v3 v4 v5 v6 v7 v8:Option V),Z=[some (.ref x),some (.ref td),v2,v3,v4,v5,v6,v7,v8,none,none]/\aI H H'/\H' r=some (.lst (us.map (·.1)))/\H' td=some (jP td xs)/\(∀p∈xs,dF K H' p.2.1 p.1)/\xs.map (λp=>(p.1,p.2.2))=(cD (us.take i)).map λe=>(e.1,V.int e.2)
 refine⟨r,rfl,⟨_,aX.of e2⟩,dq (K:=K) (a:=r) (xs:=us.map (·.1)) I1 ⟨[],none,none,none,none,none,none,none,rfl,s2,e2,etd,λp hp=>absurd hp bE,rfl⟩ (λi Z H' _ h_=>by obtain⟨_,_,_,_,_,_,_,_,_,_,e,_⟩:=h_;exact aX.of e) ?_ ?_⟩
 .rintro i y Z H3 hi ⟨xs,v2,v3,v4,v5,v6,v7,v8,rfl,s3,e3,d3,k3,m3⟩;rw[bh]at hi;cases ez:us[i]? with
  |none=>rw[ez]at hi;cases hi
  |some m =>
   rw[ez]at hi;obtain rfl:m.1=y:=bR hi;have hmu:m∈us:=bL ez;obtain⟨a,p,r2,zs,ea,h1,h2,h3,h4,h5⟩:=((nat m hmu).same s3).out;refine⟨a,_,ea,h1,rfl,_,_,rfl,_,_,rfl,_,_,rfl,_,_,rfl,rfl,?_⟩
   let I2:Nat->_->_->Prop:=λj Z H'=>∃(xs:TX)(v6 v7 v8:Option V),Z=[some (.ref x),some (.ref td),some (.int m.2.h),some (.int m.2.n),some (.ref p),some (.ref r2),v6,v7,v8,none,none]/\aI H H'/\H' r=some (.lst (us.map (·.1)))/\H' td=some (jP td xs)/\bO K H' p (zs.map (·.1))/\qJ K H' zs/\(∀q∈xs,dF K H' q.2.1 q.1)/\xs.map (λp=>(p.1,p.2.2))=(cD (us.take i)++(m.2.near.take j).map (fW m)).map λe=>(e.1,V.int e.2)
   refine⟨_,rfl,p,rfl,⟨_,h2⟩,y6 (K:=K) (a:=p) (xs:=zs.map (·.1)) I2 ⟨xs,v6,v7,v8,rfl,s3,e3,d3,h2,h3,k3,by rw[zm,ED,tT];exact m3⟩ (λj Z H' _ h_=>by obtain⟨_,_,_,_,_,_,_,_,e,_⟩:=h_;exact e) ?_ ?_⟩
   .rintro j y Z H4 hj ⟨xs,v6,v7,v8,rfl,s4,e4,d4,p4,w4,k4,m4⟩;rw[bh]at hj;cases ej:zs[j]? with
    |none=>rw[ej]at hj;cases hj
    |some z =>
     rw[ej]at hj;obtain rfl:z.1=y:=bR hj;have hmz:z∈zs:=bL ej;have ejn:m.2.near[j]?=some z.2:=(by rw[<-h4,bh,ej];rfl);obtain⟨wa,wp,ewa,g1,g2⟩:=(w4 z hmz).out;refine⟨wa,_,ewa,g1,rfl,_,_,rfl,_,_,rfl,_,_,rfl,rfl,?_⟩;obtain⟨R,hR⟩:=Le ez ejn;have XD:[m.2.h,z.2.o,z.2.a,z.2.b]∉xs.map (·.1):=by rw[M0 m4];have:=kn;rw[hR,bD]at this;intro yn;exact(uv.mp this).2.2 _ yn _ (ao.mpr ⟨fW m z.2,bp,rfl⟩) rfl
     have xl:xs.length<=60:=by have:=az List.length m4;rw[aJ,aJ]at this;have h6:=az List.length hR;rw[bV,cQ]at h6;lia
     refine⟨_,rfl,_,rfl,_,rfl,_,rfl,_,rfl,ô,λtp OQ=>?_⟩;have s5:=(aI.refl H4).new (o:=.tup [.int m.2.h,.int z.2.o,.ref wp]) OQ;have t5:dF K (ü H4 tp (.tup [.int m.2.h,.int z.2.o,.ref wp])) tp [m.2.h,z.2.o,z.2.a,z.2.b]:=⟨.inr ⟨_,_,_,_,wp,rfl,bO.of aB,s5.tup g2⟩⟩;generalize ü H4 tp (.tup [.int m.2.h,.int z.2.o,.ref wp])=H5 at s5 t5;have d5:=s5 _ _ d4;have k5:∀q∈xs,dF K H5 q.2.1 q.1:=λq hq=>(k4 q hq).same s5;refine⟨td,tp,xs,_,rfl,rfl,⟨.inl d5,k5⟩,d5,t5,by lia,?_⟩;rw[vO XD];have kp:=gM (o:=jP td (xs++[([m.2.h,z.2.o,z.2.a,z.2.b],tp,V.int z.2.q)])) (vm.UJ d5);have ner:r≠td:=xy (s5 _ _ e4) d5 (by intro z;cases z);refine⟨xs++[([m.2.h,z.2.o,z.2.a,z.2.b],tp,V.int z.2.q)],_,_,_,rfl,(s4.trans s5).put UK,by rw[aN ner];exact s5 _ _ e4,aB,kp.tup (s5.tup p4),(w4.same s5).kept kp,λq hq=>?_,?_⟩
     .rcases cH.mp hq with h|h
      .exact(k5 q h).kept kp
      rw[bX.mp h];exact t5.kept kp
     rw[þ ejn,bD,m4,bD (l₁:=m.2.near.take j),<-jH,bD (l₂:=List.map (fW m) [z.2])];rfl
   rintro Z H4 ⟨xs,v6,v7,v8,rfl,s4,e4,d4,p4,w4,k4,m4⟩;have TK:(zs.map (·.1)).length=m.2.near.length:=(by rw[<-h4,aJ,aJ]);rw[TK,eV]at m4;refine⟨xs,_,_,_,_,_,_,_,rfl,s4,e4,d4,k4,?_⟩;rw[m4,þ ez,BX,Im]
 rintro Z H3 ⟨xs,v2,v3,v4,v5,v6,v7,v8,rfl,s3,e3,d3,k3,m3⟩;rw[aJ,eV]at m3;refine⟨ñ,λst Bt=>?_⟩;have s4:=(aI.refl H3).new (o:=.lst []) Bt;have e4:=@aB H3 st (.lst []);have aCR:H st=none:=s3.free Bt;generalize ü H3 st (.lst [])=H4 at s4 e4 ⊢;have xl:xs.length<=60:=by have:=az List.length m3;rw[aJ,aJ]at this;lia
 have d4:=s4 _ _ d3;refine⟨_,rfl,td,xs,rfl,d4,λu ou=>?_⟩;have kz:=gM (o:=u) (vm.UJ d4);have s5:aI H (ü H4 td u):=(s3.trans s4).put UK;have nst:st≠td:=xy e4 d4 (by intro z;cases z);have e5:(ü H4 td u) st=some (.lst []):=by rw[aN nst];exact e4
 have k5:∀p∈xs,dF K (ü H4 td u) p.2.1 p.1:=λp hp=>((k3 p hp).same s4).kept kz;have d5:=@aB H4 td u;generalize ü H4 td u=H5 at s5 e5 k5 d5 ⊢
 let I3:Nat->_->_->Prop:=λi Z H'=>∃(zs:List (V×T3))(v2 v3 v4 v5 v6 v7 v8 v10:Option V),Z=[some (.ref x),some (.ref td),v2,v3,v4,v5,v6,v7,v8,some (.ref st),v10]/\aI H H'/\H' td=some u/\(∀p∈xs,dF K H' p.2.1 p.1)/\H' st=some (.lst (zs.map (·.1)))/\Il K H' zs/\zs.map (·.2)=((cD us).take i).filterMap (jE (cD us))
 refine nG (d:=td) (u:=u) (xs:=xs) I3 ⟨[],v2,v3,v4,v5,v6,v7,v8,none,rfl,s5,d5,k5,e5,λz hz=>absurd hz bE,rfl⟩ (λi Z H' _ h_=>by obtain⟨_,_,_,_,_,_,_,_,_,_,_,e,_⟩:=h_;exact e) ?_ ?_
 .rintro i p Z H6 hi ⟨zs,v2,v3,v4,v5,v6,v7,v8,v10,rfl,s6,d6,k6,e6,t6,m6⟩;have eL:∃e,(cD us)[i]?=some e/\p.1=e.1/\p.2.2=.int e.2:=by
   have:(xs.map λp=>(p.1,p.2.2))[i]?=some (p.1,p.2.2):=(by rw[bh,hi];rfl);rw[m3,bh]at this;cases ee:(cD us)[i]? with
   |none=>rw[ee]at this;cases this
   |some e =>
    rw[ee]at this;obtain⟨z1,z2⟩:=tY (bR this);exact⟨e,rfl,z1.symm,z2.symm⟩
  obtain⟨e,ee,ep1,ep2⟩:=eL;obtain⟨m,hm,ww,hww,rfl⟩:=kH.mp (bL ee);have pm6:=k6 p (bL hi);rw[ep1]at pm6;rcases pm6.ex with⟨_,_,z,_⟩|⟨h,o,a,b,pb,z,g1,g2⟩
  .simp at z
  simp only[jK,fV]at z;obtain⟨rfl,rfl,rfl,rfl⟩:=z;have TK:zs.length<=60:=by have:=az List.length m6;rw[aJ]at this;have h2:=aAl (jE (cD us)) ((cD us).take i);rw[cc]at h2;lia
  refine⟨p.2.1,_,rfl,g1,rfl,_,_,rfl,_,_,rfl,_,_,rfl,rfl,?_⟩;refine⟨_,rfl,_,rfl,_,rfl,ô,λbk hbk=>?_⟩;have s7:=(aI.refl H6).new (o:=.tup [.int ww.o,.int m.2.h,.ref pb]) hbk;have tb:dF K (ü H6 bk (.tup [.int ww.o,.int m.2.h,.ref pb])) bk [ww.o,m.2.h,ww.a,ww.b]:=⟨.inr ⟨_,_,_,_,pb,rfl,bO.of aB,s7.tup g2⟩⟩;generalize ü H6 bk (.tup [.int ww.o,.int m.2.h,.ref pb])=H7 at s7 tb ⊢;have d7:=s7 _ _ d6;have k7:∀p∈xs,dF K H7 p.2.1 p.1:=λp hp=>(k6 p hp).same s7;have rF:jE (cD us) ([m.2.h,ww.o,ww.a,ww.b],ww.q)=none->I3 (i+1) [some (.ref x),some (.ref td),some (.int m.2.h),v3,v4,v5,some (.int ww.o),v7,some (.ref pb),some (.ref st),some (.ref bk)] H7:=λhno=>by refine⟨zs,_,_,_,_,_,_,_,_,rfl,s6.trans s7,d7,k7,s7 _ _ e6,t6.same s7,?_⟩;rw[þ ee,Jn,m6,zh,hno];simp
  refine⟨_,rfl,_,rfl,_,_,rfl,rfl,_,rfl,?_⟩;by_cases jz:m.2.h<ww.o
  .refine fe jz ?_;refine⟨_,rfl,_,rfl,td,bk,xs,_,rfl,rfl,⟨.inr ⟨u,d7,ou⟩,k7⟩,tb,_,rfl,?_⟩;show if decide ([ww.o,m.2.h,ww.a,ww.b]∈xs.map (·.1))=true then _ else _;have vb:=xm m3 [ww.o,m.2.h,ww.a,ww.b];by_cases uk:[ww.o,m.2.h,ww.a,ww.b]∈xs.map (·.1)
   .refine fe uk ?_;have UL:(ir xs [ww.o,m.2.h,ww.a,ww.b]).isSome=true:=(by rw[dX,bw uk]);rw[vb,uu]at UL;obtain⟨q2,hq2⟩:=Option.isSome_iff_exists.mp UL;rw[hq2]at vb;have va:ir xs [m.2.h,ww.o,ww.a,ww.b]=some (.int ww.q):=by rw[xm m3,(fF kn).mpr (bL ee)];rfl
    refine⟨_,rfl,.inl ⟨rfl,_,aX.of (s7 _ _ e6)⟩,_,rfl,_,rfl,_,rfl,_,rfl,_,rfl,_,rfl,ô,λkt XE=>?_⟩;have s8:=(aI.refl H7).new (o:=.tup [.int m.2.h,.int ww.o,.ref pb]) XE;have tk:dF K (ü H7 kt (.tup [.int m.2.h,.int ww.o,.ref pb])) kt [m.2.h,ww.o,ww.a,ww.b]:=⟨.inr ⟨_,_,_,_,pb,rfl,bO.of aB,s8.tup (s7.tup g2)⟩⟩;generalize ü H7 kt (.tup [.int m.2.h,.int ww.o,.ref pb])=H8 at s8 tk;have td8:TD K H8 td xs:=⟨.inr ⟨u,s8 _ _ d7,ou⟩,λp hp=>(k7 p hp).same s8⟩;refine⟨td,kt,xs,_,_,rfl,rfl,td8,tk,va,_,rfl,_,rfl,td,bk,xs,_,_,rfl,rfl,td8,tb.same s8,vb,ww.q,q2,rfl,ô,λtp OQ=>?_⟩;have s9:=(aI.refl H8).new (o:=.tup [.int m.2.h,.int ww.o,.int (if q2>ww.q then q2 else ww.q)]) OQ;have dn:ar K (ü H8 tp (.tup [.int m.2.h,.int ww.o,.int (if q2>ww.q then q2 else ww.q)])) 2 (.ref tp) (JU (m.2.h,ww.o,if q2>ww.q then q2 else ww.q)):=by
     refine .tup (bO.of aB) rfl λi v d e1 e2=>?_
     match i with
     |0=>cases e1;cases e2;exact .int _
     |1=>cases e1;cases e2;exact .int _
     |2=>cases e1;cases e2;exact .int _
     |i+3=>simp at e1
    generalize ü H8 tp (.tup [.int m.2.h,.int ww.o,.int (if q2>ww.q then q2 else ww.q)])=H9 at s9 dn;have Xr:=s7.trans (s8.trans s9);refine⟨st,_,_,rfl,rfl,Xr _ _ e6,by rw[aJ];lia,?_⟩;have kp:=gM (o:=.lst (zs.map (·.1)++[V.ref tp])) (vm.lst (Xr _ _ e6));refine⟨zs++[(.ref tp,(m.2.h,ww.o,if q2>ww.q then q2 else ww.q))],_,_,_,_,_,_,_,_,rfl,(s6.trans Xr).put aCR,by rw[aN (bS nst)];exact Xr _ _ d6,λp hp=>((k6 p hp).same Xr).kept kp,by rw[aB,bD];rfl,λz hz=>?_,?_⟩
    .rcases cH.mp hz with h|h
     .exact((t6 z h).same Xr).kept kp (Qv _)
     rw[bX.mp h];exact dn.kept kp (Qv _)
    rw[þ ee,Jn,bD,m6,zh];have:jE (cD us) ([m.2.h,ww.o,ww.a,ww.b],ww.q)=some (m.2.h,ww.o,if q2>ww.q then q2 else ww.q):=by unfold jE;simp only;rw[aL jz,hq2];rfl
    rw[this];rfl
   refine eT uk ?_;refine rF ?_;unfold jE;simp only;rw[aL jz];have UL:(ir xs [ww.o,m.2.h,ww.a,ww.b]).isSome=false:=(by rw[dX,cL uk]);rw[vb,uu]at UL;have:mR (cD us) [ww.o,m.2.h,ww.a,ww.b]=none:=(by simpa using UL);rw[this];rfl
  refine eT jz ?_;refine rF ?_;unfold jE;simp only;rw[aK jz]
 rintro Z H6 ⟨zs,v2,v3,v4,v5,v6,v7,v8,v10,rfl,s6,d6,k6,e6,t6,m6⟩;have xle:xs.length=(cD us).length:=by
  have:=az List.length m3
  rwa [aJ,aJ]at this
 rw[xle,eV]at m6;have TK:zs.length<=60:=by have:=az List.length m6;rw[aJ]at this;have h2:=aAl (jE (cD us)) (cD us);lia
 refine⟨_,rfl,true,st,zs.map λz=>(z.1,JU z.2),rfl,by rw[bB];exact aX.of e6,by rw[aJ];lia,λy hy=>?_,by have:=aCO (zs.map (·.2));rw[bB]at this ⊢;exact this,λys r2 hp JT wN=>?_⟩
 .obtain⟨z,hz,rfl⟩:=ao.mp hy;exact ar.up (t6 z hz) (by decide)
 obtain⟨vs,Tz,rfl⟩:=perm_back (λz:V×T3=>(z.1,JU z.2)) hp zs rfl;have s7:=(aI.refl H6).new (o:=.lst ((vs.map λz=>(z.1,JU z.2)).map (·.1))) wN;have pmv:(vs.map (·.2)).Perm (Qr (cD us)):=by have:=Tz.map (·.2);rw[m6]at this;exact this
 refine q r2 _ (vs.map (·.2)) (s6.trans s7) (s6.free wN) ⟨vs,by rw[aB,bB];rfl,λz hz=>(t6 z (Tz.mem_iff.mp hz)).same s7,rfl⟩ (λtt=>?_) ?_ (by rw[aJ,Tz.length_eq];exact TK)
 .rw[pmv.mem_iff,UI ndu oku];unfold fE;refine and_congr_right λ_=>?_;constructor
  .rintro⟨m1,h1,m2,h2,z⟩;exact⟨m1,pm.mem_iff.mp h1,m2,pm.mem_iff.mp h2,z⟩
  rintro⟨m1,h1,m2,h2,z⟩;exact⟨m1,pm.mem_iff.mpr h1,m2,pm.mem_iff.mpr h2,z⟩
 have pw:(vs.map (·.2)).Pairwise λs t=>(s.1,s.2.1)≠(t.1,t.2.1):=(pmv.pairwise_iff λ{a b} h=>h.symm).mpr (Qs ndu oku);have so:(vs.map (·.2)).Pairwise λs t=>cZ (JU t) (JU s)=false:=by rw[gm]at JT ⊢;exact JT
 refine(so.and pw).imp λ{s t} ⟨h1,h2⟩=>?_;rw[VH,zU]at h1;by_cases h:mS s<mS t
 .exact h
 exact absurd (by rw[Qu (List.le_antisymm (jr.mp h1) (jr.mp h))]) h2
def XF(n:List Nat)(ns:List (List Nat)):EW (qz n) (ns.map qz)=decide (n∈ns):=by
 unfold EW;rw[jq,EE,rY,uo];constructor
 .rintro⟨x,hx,h⟩;have:ai x=ai n:=by simpa[Bv,qz]using h
  exact yT this▸hx
 intro h;exact⟨n,h,by simp[Bv,qz]⟩
def Qy(ns:List (List Nat)):(ns.map qz).all jy=true:=by rw[List.all_map,og];intro _ _;rfl
def M1(ms:Ms)(cs:List Nat)(h:Int):Prop:=∃m∈ms,m.2.h=h/\cs∈m.2.names/\∀m'∈ms,cs∈m'.2.names->h<=m'.2.h
inductive xn(K:Ni)(C:JY)(vs:List V)(H:Hp)(Q:VK)(_:XK):Prop
 |mk (x d:JY) (ms:Ms) (cs:List Nat) (_:vs=[.ref x,qz cs]) (_:i0 K C H x d ms) (_:ms.length<=50) (_:(∀(h:Int)(H':Hp),aI H H'->M1 ms cs h->Q (.int h) H')) (_:(∀H',aI H H'->(∀m∈ms,cs∉m.2.names)->Q .cX H'))
def DM:aM ["self","name","holders"] ["self","name"] (aH vU):=ac
def OR(T:Txt K mg t)(F:vA K "holder" "Map.holder" vU t.mM fd)(fG:cn P w K mg à (oV P w) 1 t.ni fn ["self"] (rB K t.Map))(fH:ú K fn ["self"] []):cn P w K mg à (oV P w) 2 t.mM fd ["self","name"] (xn K t.Map)/\ú K fd ["self","name"] []:=by
 refine⟨F.G8 DM (λvs H Q E h=>?_) (λf bM A á s H vs Q E hr h=>?_),F.binds λ_ _ _ _ _ _=>bm λ_ _=>rfl⟩
 .obtain⟨x,d,ms,cs,rfl,_⟩:=h;rfl
 obtain⟨x,d,ms,cs,rfl,hM,hl,q1,q2⟩:=h;refine⟨_,aC (vD (i:=2) DM.nd rfl (Or.inl rfl) rfl (Nc:=["house","number","near","names","name"]) (ix:=[none,none,none,none,some 1]) (iG (aH vU) ["self","name","holders"] rfl rfl (by decide +kernel)) (bH K (dv (pv 0) T.jB T.nu (fG.mono (by decide)) hr fH .nil eG)) (λC fp s H=>⟨(Sr K (n:=4) rfl (b9 (gs (i:=0) (show(["house","number","near","names","name"]:List Str).Nodup by decide +kernel) rfl (Or.inl rfl)) (b9 (gs (i:=1) (show(["house","number","near","names","name"]:List Str).Nodup by decide +kernel) rfl (Or.inl rfl)) (b9 (gs (i:=2) (show(["house","number","near","names","name"]:List Str).Nodup by decide +kernel) rfl (Or.inl rfl)) (b9 (gs (i:=3) (show(["house","number","near","names","name"]:List Str).Nodup by decide +kernel) rfl (Or.inl rfl)) qg))))),(zA (jR (uF K) (pv 4) (pv 3) (by rfl))),(pv 0)⟩))
  (aE (aQ (uw (Ga (pv 2) (λ_=>rfl)) (ah (aZ K) (pv 2) aF) eC))),?_⟩
 have hsz:=bZ;obtain⟨dx,hx⟩:=hM.o;refine⟨_,rfl,x,dx,_,rfl,hx,rfl,x,d,ms,rfl,hM,hl,λr H1 us s1 _ e1 pm XC=>?_⟩;have ul:us.length<=50:=by rw[pm.length_eq];exact hl
 refine⟨r,rfl,⟨_,aX.of e1⟩,λD hD=>?_⟩;refine iR (K:=K) (a:=r) (xs:=us.map (·.1)) (λi Z H'=>∃v1 v2 v3 v4:Option V,Z=[v1,v2,v3,v4,some (qz cs)]/\aI H1 H'/\H' D=some (.lst ((((us.take i).filter λm=>decide (cs∈m.2.names)).map (·.2.h)).map V.int))) ⟨none,none,none,none,rfl,(aI.refl _).new hD,aB⟩ (λi Z H' _ h_=>by obtain⟨_,_,_,_,_,s2,_⟩:=h_;exact aX.of (s2 _ _ e1)) ?_ ?_
 .rintro i y Z H' N hN hi ⟨v1,v2,v3,v4,rfl,s2,e2⟩;rw[bh]at hi;cases ez:us[i]? with
  |none=>rw[ez]at hi;cases hi
  |some m =>
   rw[ez]at hi;obtain rfl:m.1=y:=bR hi;have hmu:m∈us:=bL ez;have Sn:i<us.length:=(bq.mp ez).1;obtain⟨a,p,r2,zs,ea,h1,h2,h3,h4,h5⟩:=((hM.all m (pm.mem_iff.mp hmu)).same (s1.trans s2)).out;refine⟨a,_,ea,h1,rfl,_,_,rfl,_,_,rfl,_,_,rfl,_,_,rfl,rfl,?_⟩;refine⟨_,rfl,_,rfl,r2,_,rfl,.inr h5,rfl,Qy _,_,rfl,?_⟩;show if(EW (qz cs) (m.2.names.map qz))=true then _ else _;rw[XF];have fl:(((us.take i).filter λm=>decide (cs∈m.2.names)).map (·.2.h)).length<=i:=by rw[aJ];refine iA (List.length_filter_le _ _) ?_;rw[cc];lia
   by_cases uk:cs∈m.2.names
   .refine fe uk ?_;refine⟨_,rfl,_,e2,by rw[aJ];lia,hN _ _ ⟨_,_,_,_,rfl,s2.put hD,?_⟩⟩;rw[aB,þ ez,Dh,List.filter_cons_of_pos (by simpa using uk),List.filter_nil,bD,bD];rfl
   refine eT uk ?_;refine hN _ _ ⟨_,_,_,_,rfl,s2,?_⟩;rw[e2,þ ez,Dh,List.filter_cons_of_neg (by simpa using uk),List.filter_nil,tT]
 rintro Z H' ⟨v1,v2,v3,v4,rfl,s2,e2⟩;rw[aJ,eV]at e2;have S:=s1.trans s2;cases ef:us.filter (λm=>decide (cs∈m.2.names))with
 |nil =>
  rw[ef]at e2;refine⟨_,rfl,_,.inl ⟨_,aX.of e2,rfl⟩,c9 ?_⟩;refine q2 H' S λm hm hc=>?_;have:m∈us.filter (λm=>decide (cs∈m.2.names)):=tW.mpr ⟨pm.mem_iff.mpr hm,by simpa using hc⟩;rw[ef]at this;exact absurd this bE
 |cons m0 û =>
  rw[ef]at e2;refine⟨_,rfl,_,.inl ⟨_,aX.of e2,rfl⟩,ig ?_⟩;refine⟨_,rfl,D,_,_,.int m0.2.h,rfl,rfl,aX.of e2,(by have z:=jT (show(((m0::û).map (·.2.h)).map V.int)[0]?=some (V.int m0.2.h)from rfl);exact z),?_⟩;have h0:m0∈us.filter (λm=>decide (cs∈m.2.names)):=by rw[ef];exact bp
  obtain⟨h1,h2⟩:=tW.mp h0;refine q1 m0.2.h H' S ⟨m0,pm.mem_iff.mp h1,rfl,by simpa using h2,λm' UM hc=>?_⟩;have h3:m'∈us.filter (λm=>decide (cs∈m.2.names)):=tW.mpr ⟨pm.mem_iff.mpr UM,by simpa using hc⟩;have pw:(us.filter (λm=>decide (cs∈m.2.names))).Pairwise λa b=>a.2.h<b.2.h:=by unfold hs at XC;rw[gm]at XC;exact XC.filter _
  rw[ef]at h3 pw;rcases au.mp h3 with rfl|h
  .exact lC _
  exact Int.le_of_lt ((uq.mp pw).1 m' h)
def M3(K:Ni)(C:JY):Sp:=λvs H Q _=>∃x d:JY,vs=[.ref x]/\i0 K C H x d []/\∀(x' d':JY)(H':Hp),aI H H'->i0 K C H' x' d' []->Q (.ref x') H'
def Fi:aM ["self","twin","news"] ["self"] (aH LI):=ac
def UN{fi:Jc}(T:Txt K mg t)(F:vA K "copy" "Map.copy" LI t.A4 fd)(uZ:cn P w K mg à (oV P w) 1 t.init fi ["self"] (Ff K t.Map))(ua:ú K fi ["self"] [])(fG:cn P w K mg à (oV P w) 1 t.ni fn ["self"] (rB K t.Map))(fH:ú K fn ["self"] [])(uc:cn P w K mg à (oV P w) 1 t.xU fh ["self","news"] (Fg K t.Map))(ud:ú K fh ["self","news"] []):cn P w K mg à (oV P w) 3 t.A4 fd ["self"] (M3 K t.Map)/\ú K fd ["self"] []:=by
 refine⟨F.G8 Fi (λvs H Q E h=>?_) (λf bM A á s H vs Q E hr h=>?_),F.binds λ_ _ _ _ _ _=>ad λ_=>rfl⟩
 .obtain⟨x,d,rfl,_⟩:=h;rfl
 obtain⟨x,d,rfl,hM,q⟩:=h;refine⟨_,aC (aV 1 Fi (u3 T.Wu (uZ.mono (by decide)) hr (by rfl) T.Ws ua .nil eG))
  (aC (cu (bH K (dv (pv 0) T.jB T.nu (fG.mono (by decide)) hr fH .nil eG)) (bu 2 Fi) (aE (bA (mr (pv 1) T.jB T.FI (uc.mono (by decide)) hr ud .nil eG (aA (pv 2) aD)))))
  (aE (aQ (pv 1)))),?_⟩
 refine λtw tx htw htx AX=>?_;have s1:aI H (ü (ü H tx (.own tw)) tw (.ins t.Map tx [])):=by
  have z:(ü H tx (.own tw)) tw=none:=by rw[aN (bS AX)];exact htw
  exact((aI.refl H).new htx).new z
 refine⟨tw,tx,rfl,aB,λtd H2 UK m2 hM2=>⟨rfl,?_⟩⟩;have aHt:H td=none:=s1.free UK;have s2:aI H H2:=λb o e=>m2 b o (λz=>by rw[bX.mp z,htw]at e;cases e) (s1 b o e);have hMx:=hM.same s2;obtain⟨dx,hx⟩:=hMx.o;refine⟨_,rfl,x,dx,_,rfl,hx,rfl,x,d,[],rfl,hMx,bt _,λr H3 us s3 Xo e3 pm XC=>?_⟩;obtain rfl:=List.Perm.eq_nil pm;refine⟨r,rfl,⟨_,aX.of e3⟩,dq (K:=K) (a:=r) (xs:=[]) (λi Z H'=>Z=[some (.ref x),some (.ref tw),none]/\H'=H3) ⟨rfl,rfl⟩ (λi Z H' _ p=>by rw[p.2];exact aX.of e3) ?_ ?_⟩
 .rintro i y Z H4 hi _;simp at hi
 rintro Z H4 ⟨rfl,rfl⟩;exact⟨_,rfl,q tw td _ (s2.trans s3) (hM2.same s3)⟩
structure sX(K:Ni)(H:Hp)(l:JY)(ps:List (Int×Int)):Prop where
 ex:∃zs:List (JY×Int×Int),H l=some (.lst (zs.map λz=>V.ref z.1))/\(∀z∈zs,bO K H z.1 [.int z.2.1,.int z.2.2])/\zs.map (·.2)=ps
def sX.same{l:JY}(h:sX K H l ps)(s:aI H H'):sX K H' l ps:=by obtain⟨zs,h1,h2,h3⟩:=h.ex;exact⟨zs,s _ _ h1,λz hz=>s.tup (h2 z hz),h3⟩
def Lf:∀{l:List Wr},(l.map (·.o)).Nodup->∀{a b:Wr},a∈l->b∈l->a.o=b.o->a=b
 |[],_,_,_,h,_,_=>absurd h bE
 |x::l,nd,a,b,ha,hb,e=>by
  rw[bz]at nd;obtain⟨h1,h2⟩:=ic.mp nd;rcases au.mp ha with rfl|ha
  .rcases au.mp hb with rfl|hb
   .rfl
   exact absurd (ao.mpr ⟨b,hb,e.symm⟩) h1
  rename_i ha';rcases au.mp hb with hb|hb
  .exact absurd (ao.mpr ⟨a,ha,by rw[e,hb]⟩) h1
  exact Lf h2 ha hb e
def yV{ms:Ms}(nd:(hs ms).Nodup)(ok:vn ms){s t:T3}(Rp:fE ms s)(ht:fE ms t)(e1:s.1=t.1)(e2:s.2.1=t.2.1):s=t:=by obtain⟨_,m1,h1,m2,h2,w1,g1,w2,g2,a1,a2,a3,a4,_,_,a5⟩:=Rp;obtain⟨_,n1,k1,n2,k2,v1,f1,v2,f2,b1,b2,b3,b4,_,_,b5⟩:=ht;obtain rfl:=zO nd h1 k1 (by lia);obtain rfl:=zO nd h2 k2 (by lia);obtain rfl:=Lf (ok m1 h1).1 g1 f1 (by lia);obtain rfl:=Lf (ok m2 h2).1 g2 f2 (by lia);exact Prod.ext e1 (Prod.ext e2 (by rw[a5,b5]))
def XG{n:Nat}{t:T3}(h:ar K H n v (JU t)):∃a,v=.ref a/\bO K H a [.int t.1,.int t.2.1,.int t.2.2]:=by
 cases n with
 |zero=>cases h
 |succ n =>
  obtain⟨a,xs,rfl,h1,h2,h3⟩:=La h
  match xs,h2 with
  |[x,y,z],_ =>
   obtain rfl:=BU (h3 0 x _ rfl rfl);obtain rfl:=BU (h3 1 y _ rfl rfl);obtain rfl:=BU (h3 2 z _ rfl rfl);exact⟨a,rfl,h1⟩
def Xs(t:T3):List (Tk×Int):=[([t.1,t.2.1],t.2.2),([t.2.1,t.1],t.2.2)]
def iM(ts:List T3):List (Tk×Int):=ts.flatMap Xs
structure Rw(ts:List T3):Prop where
 lt:∀t∈ts,t.1<t.2.1
 pw:ts.Pairwise λs t=>¬(s.1=t.1/\s.2.1=t.2.1)
def kr{ts:List T3}{e:Tk×Int}:e∈iM ts↔∃t∈ts,e=([t.1,t.2.1],t.2.2)\/e=([t.2.1,t.1],t.2.2):=by unfold iM Xs;rw[List.mem_flatMap];simp only[au,bE,dJ]
def kI:∀{ts:List T3},Rw ts->((iM ts).map (·.1)).Nodup
 |[],_=>zp
 |t::ts,h=>by
  obtain⟨p1,p2⟩:=uq.mp h.pw;have ih:=kI (ts:=ts) ⟨λs hs=>h.lt s (bU _ hs),p2⟩;have t0:=h.lt t bp;have no:∀k,k=[t.1,t.2.1]\/k=[t.2.1,t.1]->k∉(iM ts).map (·.1):=λk hk hm=>by obtain⟨e,he,rfl⟩:=ao.mp hm;obtain⟨s,hs,z⟩:=kr.mp he;have s0:=h.lt s (bU _ hs);have:=p1 s hs;rcases z with rfl|rfl<;>rcases hk with hk|hk<;>simp only[jK,fV]at hk<;>lia
  show(([t.1,t.2.1]::[t.2.1,t.1]::(iM ts).map (·.1))).Nodup;refine ic.mpr ⟨λz=>?_,ic.mpr ⟨no _ (.inr rfl),ih⟩⟩;rcases au.mp z with z|z
  .simp only[jK,fV]at z;lia
  exact no _ (.inl rfl) z
def M4(a b:List T3):iM (a++b)=iM a++iM b:=by unfold iM;rw[Ju]
def Fj(ts:List T3):(iM ts).length=2*ts.length:=by
 induction ts with
 |nil=>rfl
 |cons t ts ih =>
  show(Xs t++iM ts).length=_;rw[bV,ih,cQ];show 2+_=_;lia
structure vp(K:Ni)(H:Hp)(td:JY)(L:List (Tk×Int))(xs:TX):Prop where
 d:H td=some (jP td xs)
 k:∀p∈xs,dF K H p.2.1 p.1
 m:xs.map (λp=>(p.1,p.2.2))=L.map λe=>(e.1,V.int e.2)
def vp.same{K:Ni}{H H':Hp}{td:JY}{L:List (Tk×Int)}{xs:TX}(h:vp K H td L xs)(s:aI H H'):vp K H' td L xs:=⟨s _ _ h.d,λp hp=>(h.k p hp).same s,h.m⟩
inductive lV(K:Ni)(C:JY)(vs:List V)(H:Hp)(Q:VK)(_:XK):Prop
 |mk (x d:JY) (ms:Ms) (_:vs=[.ref x]) (_:i0 K C H x d ms) (_:ms.length<=12) (_:vn ms) (_:∀(td:JY)(H':Hp)(ts:List T3)(xs:TX),aI H H'->H td=none->vp K H' td (iM ts) xs->(∀t,t∈ts↔fE ms t)->Rw ts->ts.length<=60->Q (.ref td) H')
def fz:aM ["chart","lengths","one","other","length"] ["chart"] (aH nW):=ac
def CK(F:aY K mg "lengths_of" nW)(T:Txt K mg t)(iU:cn P w K mg à (oV P w) 2 t.nj fw ["self"] (vo K t.Map))(iV:ú K fw ["self"] []):ã P w K mg à 3 "lengths_of" ["chart"] (lV K t.Map):=by
 refine F.eY fz λf bM A á s H vs Q E hr h=>?_;obtain⟨x,d,ms,rfl,hM,hl,cI,q⟩:=h;refine⟨_,aC (aV 1 fz Ep)
  (aC (cu (bH K (dv (pv 0) T.jB T.vY (iU.mono (by decide)) hr iV .nil eG)) (wq rfl (b9 (bu 2 fz) (b9 (bu 3 fz) (b9 (bu 4 fz) qg)))) (aC (zK K (dU hr) (pv 1) (c5 (aA (pv 2) (aA (pv 3) aD))) (pv 4) (by rfl))
   (aE (zK K (dU hr) (pv 1) (c5 (aA (pv 3) (aA (pv 2) aD))) (pv 4) (by rfl)))))
  (aE (aQ (pv 1)))),?_⟩
 have hsz:=bZ;refine λtd UK=>?_;obtain⟨H1,ja,s1,e1⟩:=nL (aI.refl H) (o:=jP td []) UK;rw[ja];obtain⟨dx,hx⟩:=hM.o;refine⟨_,rfl,x,dx,_,rfl,s1 _ _ hx,rfl,x,d,ms,rfl,hM.same s1,hl,cI,λr H2 ts s2 nr w2 m2 p2 tl=>?_⟩;have lt2:∀t∈ts,t.1<t.2.1:=λt ht=>((m2 t).mp ht).1;have Io:Rw ts:=⟨lt2,p2.imp_of_mem λ{s t} hs ht h e=>by have:=yV hM.nd cI ((m2 s).mp hs) ((m2 t).mp ht) e.1 e.2;rw[this]at h;exact List.lt_irrefl _ h⟩
 have kn:=kI Io;obtain⟨zs,z1,z2,z3⟩:=w2;have S2:=s1.trans s2;have nrt:r≠td:=λz=>by rw[z,e1]at nr;cases nr
 let I:Nat->_->_->Prop:=λi Z H'=>∃(xs:TX)(v2 v3 v4:Option V),Z=[some (.ref x),some (.ref td),v2,v3,v4]/\aI H H'/\H' r=some (.lst (zs.map (·.1)))/\Il K H' zs/\vp K H' td (iM (ts.take i)) xs
 refine⟨r,rfl,⟨_,aX.of z1⟩,dq (K:=K) (a:=r) (xs:=zs.map (·.1)) I ⟨[],none,none,none,rfl,S2,z1,z2,s2 _ _ e1,λp hp=>absurd hp bE,rfl⟩ (λi Z H' _ h_=>by obtain⟨_,_,_,_,_,_,e,_⟩:=h_;exact aX.of e) ?_ ?_⟩
 .rintro i y Z H3 hi ⟨xs,v2,v3,v4,rfl,s3,e3,t3,l3⟩;rw[bh]at hi;cases ez:zs[i]? with
  |none=>rw[ez]at hi;cases hi
  |some z =>
   rw[ez]at hi;obtain rfl:z.1=y:=bR hi;have et:ts[i]?=some z.2:=(by rw[<-z3,bh,ez];rfl);obtain⟨za,ea,g1⟩:=XG (t3 z (bL ez));refine⟨za,_,ea,g1,rfl,_,_,rfl,_,_,rfl,_,_,rfl,rfl,?_⟩;have i1:i<ts.length:=(bq.mp et).1;have xl:xs.length<=200:=by have:=az List.length l3.m;rw[aJ,aJ,Fj,cc]at this;lia
   have one:∀{H4:Hp}{xs:TX}{L R:List (Tk×Int)}{a b l:Int}{k:JY},H4 k=none->iM ts=L++([a,b],l)::R->aI H H4->H4 r=some (.lst (zs.map (·.1)))->Il K H4 zs->vp K H4 td L xs->xs.length<=300->dF K (ü H4 k (.tup [.int a,.int b])) k [a,b]/\TD K (ü H4 k (.tup [.int a,.int b])) td xs/\(ü H4 k (.tup [.int a,.int b])) td=some (jP td xs)/\aI H (ü (ü H4 k (.tup [.int a,.int b])) td (jP td (lG xs [a,b] k (.int l))))/\(ü (ü H4 k (.tup [.int a,.int b])) td (jP td (lG xs [a,b] k (.int l)))) r=some (.lst (zs.map (·.1)))/\Il K (ü (ü H4 k (.tup [.int a,.int b])) td (jP td (lG xs [a,b] k (.int l)))) zs/\vp K (ü (ü H4 k (.tup [.int a,.int b])) td (jP td (lG xs [a,b] k (.int l)))) td (L++[([a,b],l)]) (lG xs [a,b] k (.int l))/\(lG xs [a,b] k (.int l)).length<=xs.length+1:=by
    intro H4 xs L R a b l k hk hL s4 r4 t4 l4 xl;have s5:=(aI.refl H4).new (o:=.tup [.int a,.int b]) hk;have t5:dF K (ü H4 k (.tup [.int a,.int b])) k [a,b]:=⟨.inl ⟨_,_,rfl,bO.of aB⟩⟩;generalize ü H4 k (.tup [.int a,.int b])=H5 at s5 t5 ⊢;have XD:[a,b]∉xs.map (·.1):=by rw[M0 l4.m];have:=kn;rw[hL,bD]at this;intro yn;exact(uv.mp this).2.2 _ yn _ (ao.mpr ⟨([a,b],l),bp,rfl⟩) rfl
    have d5:=s5 _ _ l4.d;rw[vO XD];have kp:=gM (o:=jP td (xs++[([a,b],k,V.int l)])) (vm.UJ d5);have k5:∀q∈xs,dF K H5 q.2.1 q.1:=λq hq=>(l4.k q hq).same s5;refine⟨t5,⟨.inl d5,k5⟩,d5,(s4.trans s5).put UK,by rw[aN nrt];exact s5 _ _ r4,λz hz=>((t4 z hz).same s5).kept kp (Qv _),⟨aB,λq hq=>?_,?_⟩,by rw[bV];exact ae _⟩
    .rcases cH.mp hq with h|h
     .exact(k5 q h).kept kp
     rw[bX.mp h];exact t5.kept kp
    rw[bD,l4.m,bD];rfl
   obtain⟨R,hR⟩:∃R,iM ts=iM (ts.take i)++(Xs z.2++R):=by obtain⟨j1,j2⟩:=bq.mp et;refine⟨iM (ts.drop (i+1)),?_⟩;have e1:ts=ts.take i++z.2::ts.drop (i+1):=(by rw[<-j2,Jh,Jj]);have:iM (ts.take i++z.2::ts.drop (i+1))=iM (ts.take i)++(Xs z.2++iM (ts.drop (i+1))):=(by rw[M4];rfl);rw[<-this,<-e1]
   refine⟨_,rfl,_,rfl,_,rfl,_,rfl,ó,λk1 hk1=>?_⟩;obtain⟨a1,a2,a3,a4,a5,a6,a7,a8⟩:=one hk1 hR s3 e3 t3 l3 (by lia);refine⟨td,k1,xs,_,rfl,rfl,a2,a3,a1,by lia,?_⟩;generalize ü (ü H3 k1 (.tup [.int z.2.1,.int z.2.2.1])) td (jP td (lG xs [z.2.1,z.2.2.1] k1 (.int z.2.2.2)))=H4 at a4 a5 a6 a7;generalize lG xs [z.2.1,z.2.2.1] k1 (.int z.2.2.2)=xs1 at a7 a8;refine⟨_,rfl,_,rfl,_,rfl,_,rfl,ó,λk2 hk2=>?_⟩;obtain⟨b1,b2,b3,b4,b5,b6,b7,b8⟩:=one hk2 (L:=iM (ts.take i)++[([z.2.1,z.2.2.1],z.2.2.2)]) (R:=R) (a:=z.2.2.1) (b:=z.2.1) (l:=z.2.2.2) (by rw[hR];unfold Xs;simp) a4 a5 a6 a7 (by lia);refine⟨td,k2,xs1,_,rfl,rfl,b2,b3,b1,by lia,?_⟩;rw[jH]at b7;exact⟨_,_,_,_,rfl,b4,b5,b6,by rw[þ et,M4];exact b7⟩
 rintro Z H3 ⟨xs,v2,v3,v4,rfl,s3,e3,t3,l3⟩;have:(zs.map (·.1)).length=ts.length:=by rw[<-z3,aJ,aJ]
 rw[this,eV]at l3;exact⟨_,rfl,q td H3 ts xs s3 UK l3 m2 Io tl⟩
abbrev Hv:=List (Int×Int)
def oZ(p:Int×Int):ä×V:=(Sum.inl p.1,.int p.2)
def lk(hv:Hv)(h:Int):Option Int:=(hv.find? λp=>decide (p.1=h)).map (·.2)
def vq(hv:Hv)(h n:Int):Hv:=if h∈hv.map (·.1)then hv.map (λp=>if p.1=h then(h,n)else p)else hv++[(h,n)]
def sY(hv:Hv)(h:Int):uD (hv.map oZ) (Sum.inl h)=(lk hv h).map V.int:=by
 unfold uD lk;rw[List.find?_map,Option.map_map,Option.map_map];have e:((λkv:ä×V=>decide (kv.1=Sum.inl h))∘oZ)=λp:Int×Int=>decide (p.1=h):=by
  funext m
  simp[oZ]
 rw[e];rfl
def VJ(hv:Hv)(h n:Int):io (hv.map oZ) (Sum.inl h) (.int n)=(vq hv h n).map oZ:=by
 unfold io vq;have e:((hv.map oZ).any λkv=>decide (kv.1=Sum.inl h))=decide (h∈hv.map (·.1)):=by
  rw[EE,jq,rY,uo,ao];constructor
  .rintro⟨m,hm,h⟩;exact⟨m,hm,by simpa[oZ]using h⟩
  rintro⟨m,hm,h⟩;exact⟨m,hm,by simp[oZ,h]⟩
 rw[e];by_cases c:h∈hv.map (·.1)
 .rw[aL (by simpa using c),aL c,bB,bB];refine iY λm _=>?_;show(if(oZ m).1=Sum.inl h then((oZ m).1,V.int n)else oZ m)=oZ (if m.1=h then(h,n)else m);by_cases c:m.1=h
  .rw[aL c,aL (by simp[oZ,c])];simp[oZ,c]
  rw[aK c,aK (by simp[oZ,c])]
 rw[aK (by simpa using c),aK c,bD];rfl
def gN{hv:Hv}{h:Int}:lk hv h=none↔h∉hv.map (·.1):=by
 unfold lk;rw[Option.map_eq_none_iff,wR];constructor
 .intro a b;obtain⟨p,hp,e⟩:=ao.mp b;exact a p hp (by simpa using e)
 intro a p hp e;exact a (ao.mpr ⟨p,hp,by simpa using e⟩)
def lW(hv:Hv)(h n x:Int):lk (vq hv h n) x=if x=h then some n else lk hv x:=by
 unfold vq;by_cases c:h∈hv.map (·.1)
 .rw[aL c];by_cases e:x=h
  .subst e;rw[aL rfl];have key:∀l:Hv,x∈l.map (·.1)->lk (l.map λp=>if p.1=x then(x,n)else p) x=some n:=by
    intro l
    induction l with
    |nil=>intro z;cases z
    |cons p l ih =>
     intro z;unfold lk;rw[bz,ia];by_cases d:p.1=x
     .simp[d]
     simp only[d,cm,decide_false];have:=ih ((au.mp z).resolve_left λe=>d e.symm);unfold lk at this;exact this
   exact key hv c
  rw[aK e];unfold lk
  congr 1
  clear c
  induction hv with
  |nil=>rfl
  |cons p l ih =>
   rw[bz,ia,ia,ih];by_cases d:p.1=h
   .have h1:¬h=x:=λz=>e z.symm;simp[d,h1]
   simp[d]
 rw[aK c];unfold lk;rw[List.find?_append];by_cases e:x=h
 .subst e;have:hv.find? (λp=>decide (p.1=x))=none:=by
   have:=gN.mpr c;unfold lk at this
   simpa using this
  rw[this];simp
 have:¬h=x:=λz=>e z.symm;simp[e,this]
def Ip(hv:Hv)(h n:Int):(vq hv h n).map (·.1)=if h∈hv.map (·.1)then hv.map (·.1)else hv.map (·.1)++[h]:=by
 unfold vq;by_cases c:h∈hv.map (·.1)
 .rw[aL c,aL c,bB];refine iY λm _=>?_;show(if m.1=h then(h,n)else m).1=m.1;split
  .rename_i c;exact c.symm
  rfl
 rw[aK c,aK c,bD];rfl
def OS{hv:Hv}(nd:(hv.map (·.1)).Nodup)(h n:Int):((vq hv h n).map (·.1)).Nodup:=by
 rw[Ip];split
 .exact nd
 rename_i c;refine uv.mpr ⟨nd,by simp,λa ha b hb=>?_⟩;rw[bX.mp hb];rintro rfl;exact c ha
def UO(hv:Hv)(h n:Int):(vq hv h n).length=if h∈hv.map (·.1)then hv.length else hv.length+1:=by
 have:=az List.length (Ip hv h n);rw[aJ]at this;rw[this];split
 .rw[aJ]
 rw[bV,aJ];rfl
structure Ht(L:List (Tk×Int))(goal:Int)(hv:Hv):Prop where
 nd:(hv.map (·.1)).Nodup
 g:lk hv goal=some 0
 pos:∀x n,lk hv x=some n->0<=n
 par:∀x n,lk hv x=some n->x≠goal->∃e l m,([x,e],l)∈L/\lk hv e=some m/\m+l<=n
 bd:∀x n,lk hv x=some n->n<=1000*((hv.length:Int)-1)
def Ht.start(L:List (Tk×Int))(goal:Int):Ht L goal [(goal,0)]:=by
 have one:∀x n,lk [(goal,0)] x=some n->x=goal/\n=0:=λx n h=>by
  unfold lk at h;by_cases c:goal=x
  .subst c;simp at h;exact⟨rfl,h.symm⟩
  simp[c]at h
 refine⟨by simp,by simp[lk],λx n h=>?_,λx n h ne=>absurd (one x n h).1 ne,λx n h=>?_⟩
 .rw[(one x n h).2];exact lC _
 rw[(one x n h).2];show(0:Int)<=1000*(((1:Nat):Int)-1);decide
def Qz(hv:Hv)(b k:Int):Prop:=lk hv b=none\/∃n,lk hv b=some n/\k<n
def Ht.put{hv:Hv}(h:Ht L goal hv){b e l m:Int}(he:([b,e],l)∈L)(l1:1<=l)(l2:l<=1000)(hm:lk hv e=some m)(f:Qz hv b (m+l)):Ht L goal (vq hv b (m+l)):=by
 have m0:=h.pos _ _ hm;have bg:goal≠b:=λz=>by
  rcases f with f|⟨n,f,f2⟩
  .rw[<-z,h.g]at f;cases f
  rw[<-z,h.g]at f;cases f;lia
 have be:e≠b:=λz=>by
  rcases f with f|⟨n,f,f2⟩
  .rw[<-z,hm]at f;cases f
  rw[<-z,hm]at f;cases f;lia
 have len:(hv.length:Int)<=(vq hv b (m+l)).length/\(lk hv b=none->((vq hv b (m+l)).length:Int)=hv.length+1):=by
  rw[UO];constructor
  .split<;>lia
  intro z;rw[aK (gN.mp z)];lia
 refine⟨OS h.nd _ _,by rw[lW,aK bg];exact h.g,λx n hx=>?_,λx n hx ne=>?_,λx n hx=>?_⟩
 .rw[lW]at hx;split at hx
  .cases hx;lia
  exact h.pos _ _ hx
 .rw[lW]at hx;split at hx
  .rename_i z;cases hx;rw[z];exact⟨e,l,m,he,by rw[lW,aK be];exact hm,lC _⟩
  obtain⟨e',l',m',h1,h2,h3⟩:=h.par x n hx ne;by_cases c:e'=b
  .rcases f with f|⟨n',f,f2⟩
   .rw[c,f]at h2;cases h2
   rw[c,f]at h2;cases h2;exact⟨e',l',m+l,h1,by rw[lW,aL c],by lia⟩
  exact⟨e',l',m',h1,by rw[lW,aK c];exact h2,h3⟩
 rw[lW]at hx;split at hx
 .cases hx;rcases f with f|⟨n',f,f2⟩
  .have:=h.bd _ _ hm;have:=len.2 f;lia
  have:=h.bd _ _ f;lia
 have:=h.bd _ _ hx;lia
def zP:∀(r fs:List Int),fs.Nodup->(∀x∈fs,x∈r)->fs.length<=r.length
 |[],fs,_,h=>by
  cases fs with
  |nil=>exact ae _
  |cons a b=>exact absurd (h a bp) bE
 |a::r,fs,nd,h=>by
  have ih:=zP r (fs.erase a) (nd.erase a) λx hx=>by have WX:=(nd.mem_erase_iff).mp hx;exact(au.mp (h x WX.2)).resolve_left WX.1
  rw[cQ];by_cases ha:a∈fs
  .rw[aAm ha]at ih;lia
  rw[List.erase_of_not_mem ha]at ih;lia
def Ht.size{hv:Hv}(h:Ht L goal hv):hv.length<=L.length+1:=by
 have:=zP (goal::L.map λe=>e.1.headD 0) (hv.map (·.1)) h.nd λx hx=>by
  cases e:lk hv x with
  |none=>exact absurd hx (gN.mp e)
  |some n =>
   by_cases c:x=goal
   .rw[c];exact bp
   obtain⟨e',l',m',h1,_⟩:=h.par x n e c;exact bU _ (ao.mpr ⟨_,h1,rfl⟩)
 rw[aJ,cQ,aJ]at this;exact this
def Q0{α:Type}(f g:α->Nat):∀l:List α,(∀x∈l,f x<=g x)->(l.map f).sum<=(l.map g).sum
 |[],_=>ae _
 |x::l,h=>by have:=Q0 f g l λy hy=>h y (bU _ hy);have:=h x bp;simp only[bz,EA];lia
def Q4{α:Type}(f g:α->Nat):∀l:List α,(∀x∈l,f x<=g x)->(∃x∈l,f x<g x)->(l.map f).sum<(l.map g).sum
 |[],_,⟨_,h,_⟩=>absurd h bE
 |x::l,h,⟨y,hy,hl⟩=>by
  have h0:=h x bp;have h1:∀x∈l,f x<=g x:=λy hy=>h y (bU _ hy);simp only[bz,EA];rcases au.mp hy with rfl|hy
  .have:=Q0 f g l h1;lia
  have:=Q4 f g l h1 ⟨y,hy,hl⟩;lia
def mu(L:List (Tk×Int))(hv:Hv):Nat:=(L.map λe=>((lk hv (e.1.headD 0)).getD (1000*L.length+1)).toNat).sum
def Ht.Zv{hv:Hv}(h:Ht L goal hv){b e l m:Int}(he:([b,e],l)∈L)(l1:1<=l)(l2:l<=1000)(hm:lk hv e=some m)(f:Qz hv b (m+l)):mu L (vq hv b (m+l))<mu L hv:=by
 have h':=h.put he l1 l2 hm f;have m0:=h.pos _ _ hm;have key:(m+l).toNat<((lk hv b).getD (1000*L.length+1)).toNat:=by
  rcases f with f|⟨n,f,f2⟩
  .have:=h'.bd b (m+l) (by rw[lW,aL rfl]);have:=h'.size;rw[f];show(m+l).toNat<(1000*(L.length:Int)+1).toNat;lia
  rw[f];show(m+l).toNat<n.toNat;lia
 unfold mu;refine Q4 _ _ L (λx _=>?_) ⟨_,he,?_⟩
 .rw[lW];split
  .rename_i z;rw[z];exact gT key
  exact ae _
 rw[lW];show((if b=b then some (m+l)else lk hv b).getD _).toNat<((lk hv b).getD _).toNat;rw[aL rfl];exact key
def OT(hv:Hv)(e:Tk×Int):Prop:=∀b x,e.1=[b,x]->∀m,lk hv x=some m->∃n,lk hv b=some n/\n<=m+e.2
def Q5{X:Cx}{pos:Pos}{k1 v1:Expr}{t1 u1:TE}(h1:PE X k1 t1)(g1:PE X v1 u1):PE X (.Dict [some k1] [v1] pos) (Uz [(t1,u1)]) :=
 Se (Pm h1 g1 Sd) rfl rfl (List.cons_ne_nil _ _) (show 1<=15 by decide)
def Sx(td:JY)(H H':Hp):Prop:=∀b o,b≠td->H b=some o->H' b=some o
def BY(L:List (Tk×Int)):Prop:=(L.map (·.1)).Nodup/\∀e∈L,∃a b,e.1=[a,b]/\1<=e.2/\e.2<=1000
def M5{xs:TX}{p:Tk×JY×V}(zQ:BY L)(hm:xs.map (λp=>(p.1,p.2.2))=L.map λe=>(e.1,V.int e.2))(hi:xs[i]?=some p)(pk:dF K H p.2.1 p.1):∃b y l,L[i]?=some ([b,y],l)/\([b,y],l)∈L/\(1<=l/\l<=1000)/\bO K H p.2.1 [.int b,.int y]:=by
 have this:(xs.map λp=>(p.1,p.2.2))[i]?=some (p.1,p.2.2):=by rw[bh,hi];rfl
 rw[hm,bh]at this;obtain⟨⟨kk,l⟩,ee,z1⟩:=gk.mp this;obtain⟨z1,z2⟩:=tY z1;have Lg:=bL ee;obtain⟨b,y,hk,l1⟩:=zQ.2 _ Lg;obtain rfl:kk=[b,y]:=hk;rw[<-z1]at pk;rcases pk.ex.symm with⟨_,_,_,_,_,z,_⟩|⟨_,_,z,g1⟩
 .simp at z
 simp only[jK,fV]at z;obtain⟨rfl,rfl⟩:=z;exact⟨_,_,l,ee,Lg,l1,g1⟩
inductive lX(K:Ni)(vs:List V)(H:Hp)(Q:VK)(_:XK):Prop
 |mk (td:JY) (goal:Int) (L:List (Tk×Int)) (xs:TX) (_:vs=[.ref td,.int goal]) (_:vp K H td L xs) (_:BY L) (_:L.length<=1000) (_:∀(hd:JY)(H':Hp)(hv:Hv),aI H H'->H hd=none->H' hd=some (.dK (hv.map oZ))->Ht L goal hv->(∀e∈L,OT hv e)->Q (.ref hd) H')
def dD:aM ["lengths","goal","heights","falling","begin","end","height"] ["lengths","goal"] (aH nX):=ac
def CL(F:aY K mg "heights_to" nX)(T:Txt K mg t):ã P w K mg à 1 "heights_to" ["lengths","goal"] (lX K):=by
 refine F.eY dD λf bM A á s H vs Q E hr h=>?_;obtain⟨td,goal,L,xs,rfl,hL,zQ,ll,q⟩:=h;refine⟨_,aC (aV 2 dD (Q5 (pv 1) aF))
  (aC (aV 3 dD jw)
  (aC (PS.J7 (uy oh (fX (pv 3))
   (aC (aV 3 dD jw)
   (aE (xG (tu oh rfl (jh (pv 0)) (iS K (i:=4) (j:=5) rfl dD.nd rfl rfl (Or.inl rfl) (Or.inl rfl))
    (aE (ax (EM (Pk (ie hr) (pv 5) (pv 2)) (by rfl))
     (aC (aV 6 dD (aT bT (iT (ie hr) (pv 2) (pv 5) (λ_ _=>rfl)) (kg K (dU hr) (pv 0) (c5 (aA (pv 4) (aA (pv 5) aD))) (λ_ _=>rfl))))
     (aE (ax (PW.pt (kX (EM (xF (ie hr) (pv 4) (pv 2)) (by rfl)) (jx (bI kZ (pv 6) (iT (ie hr) (pv 2) (pv 4) (λ_ _=>rfl))))))
      (aC (MR (ie hr) (pv 2) (pv 4) (pv 6) (by rfl))
      (aE (aV 3 dD jw)))
      (aW))))
     (aW)))))))))
  (aE (aQ (pv 2))))),?_⟩
 have hsz:=bZ;have ndt:∀{hd:JY},H hd=none->hd≠td:=λz e=>by rw[e,hL.d]at z;cases z
 have xll:xs.length=L.length:=by
  have:=az List.length hL.m
  rwa [aJ,aJ]at this
 refine λhd Zw=>⟨_,rfl,aB,[(Sum.inl goal,.int 0)],rfl,by show 1<=15;decide,?_⟩;have s1:aI H (ü (ü H hd (.dK [])) hd (.dK (o8 [] [(Sum.inl goal,V.int 0)]))):=((aI.refl H).new Zw).put Zw;have e1:(ü (ü H hd (.dK [])) hd (.dK (o8 [] [(Sum.inl goal,V.int 0)]))) hd=some (.dK ([(goal,(0:Int))].map oZ)):=aB;generalize ü (ü H hd (.dK [])) hd (.dK (o8 [] [(Sum.inl goal,V.int 0)]))=H1 at s1 e1 ⊢;have XH:=ndt Zw
 let W:Nat->_->_->Prop:=λm Z H'=>∃(hv:Hv)(f:Bool)(v4 v5 v6:Option V),Z=[some (.ref td),some (.int goal),some (.ref hd),some (.bl f),v4,v5,v6]/\aI H H'/\H' hd=some (.dK (hv.map oZ))/\Ht L goal hv/\((f=true/\m=mu L hv+1)\/(f=false/\m=0/\∀e∈L,OT hv e))
 refine⟨W,⟨_,[(goal,0)],true,none,none,none,rfl,s1,e1,Ht.start L goal,.inl ⟨rfl,rfl⟩⟩,?_⟩;rintro m Z H2 ⟨hv,f,v4,v5,v6,rfl,s2,e2,h2,hf⟩;refine⟨_,rfl,f,rfl,?_⟩;rcases hf.symm with⟨rfl,rfl,cl⟩|⟨rfl,rfl⟩
 .refine c9 ?_;exact⟨_,rfl,q hd H2 hv s2 Zw e2 h2 cl⟩
 refine ig ⟨λZ' H'=>∃m',m'<mu L hv+1/\W m' Z' H',λZ' H' z=>z,?_⟩;have l2':=hL.same s2;refine⟨_,rfl,td,xs,rfl,l2'.d,λu ou=>?_⟩;have kz:=gM (o:=u) (vm.UJ l2'.d);have e3:(ü H2 td u) hd=some (.dK (hv.map oZ)):=by rw[aN XH];exact e2
 have d3:=@aB H2 td u;have k3:∀p∈xs,dF K (ü H2 td u) p.2.1 p.1:=λp hp=>(l2'.k p hp).kept kz;have x3:Sx td H (ü H2 td u):=λb o nb e=>by rw[aN nb];exact s2 b o e
 generalize ü H2 td u=H3 at e3 d3 k3 x3 ⊢
 let J:Nat->_->_->Prop:=λi Z H'=>∃(rf:Hv)(f:Bool)(v4 v5 v6:Option V),Z=[some (.ref td),some (.int goal),some (.ref hd),some (.bl f),v4,v5,v6]/\Sx td H H'/\H' td=some u/\H' hd=some (.dK (rf.map oZ))/\(∀p∈xs,dF K H' p.2.1 p.1)/\Ht L goal rf/\((f=true/\mu L rf<mu L hv)\/(f=false/\rf=hv/\∀e∈L.take i,OT hv e))
 refine nG (d:=td) (u:=u) (xs:=xs) J ⟨hv,false,_,_,_,rfl,x3,d3,e3,k3,h2,.inr ⟨rfl,rfl,λe he=>absurd he (by simp)⟩⟩ (λi Z H' _ h_=>by obtain⟨_,_,_,_,_,_,_,e,_⟩:=h_;exact e) ?_ ?_
 .rintro i p Z H4 hi ⟨rf,f,v4,v5,v6,rfl,x4,d4,e4,k4,h4,hf⟩;obtain⟨b,x,l,ee,Lg,⟨l1,l2⟩,g1⟩:=M5 zQ hL.m hi (k4 p (bL hi));refine⟨p.2.1,_,rfl,g1,rfl,_,_,rfl,_,_,rfl,rfl,?_⟩;have hvl:=h4.size;have rF:∀{v6:Option V}{H5:Hp},Sx td H H5->H5 td=some u->H5 hd=some (.dK (rf.map oZ))->(∀p∈xs,dF K H5 p.2.1 p.1)->OT rf ([b,x],l)->J (i+1) [some (.ref td),some (.int goal),some (.ref hd),some (.bl f),some (.int b),some (.int x),v6] H5:=λx5 d5 e5 k5 cl=>by
   refine⟨rf,f,_,_,_,rfl,x5,d5,e5,k5,h4,?_⟩;rcases hf with hf|⟨f1,f2,f3⟩
   .exact .inl hf
   refine .inr ⟨f1,f2,λe he=>?_⟩;rw[þ ee]at he;rcases cH.mp he with he|he
   .exact f3 e he
   rw[bX.mp he,<-f2];exact cl
  refine⟨_,rfl,_,rfl,hd,_,rfl,gg.k (k:=Sum.inl x) e4,?_⟩;rw[sY];cases em:lk rf x with
  |none =>
   refine⟨false,rfl,c9 ?_⟩;refine rF x4 d4 e4 k4 λb' x' z m' UM=>?_;simp only[jK,fV]at z;obtain⟨rfl,rfl⟩:=z;rw[em]at UM;cases UM
  |some m =>
   refine⟨true,rfl,ig ?_⟩;have gv:gg H4 hd (.int x) (some (.int m)):=by have:=gg.k (k:=Sum.inl x) e4;rw[sY,em]at this;exact this
   refine⟨_,rfl,_,rfl,hd,.int m,rfl,gv,_,rfl,_,rfl,_,rfl,ó,λkt XE=>?_⟩;have s5:=(aI.refl H4).new (o:=.tup [.int b,.int x]) XE;have tk:dF K (ü H4 kt (.tup [.int b,.int x])) kt [b,x]:=⟨.inl ⟨_,_,rfl,bO.of aB⟩⟩;generalize ü H4 kt (.tup [.int b,.int x])=H5 at s5 tk ⊢;have k5:∀p∈xs,dF K H5 p.2.1 p.1:=λp hp=>(k4 p hp).same s5;have e5:=s5 _ _ e4;have d5:=s5 _ _ d4;have x5:Sx td H H5:=λb o nb e=>s5 b o (x4 b o nb e);have va:ir xs [b,x]=some (.int l):=by rw[xm hL.m,(fF zQ.1).mpr Lg];rfl
   refine⟨td,kt,xs,_,_,rfl,rfl,⟨.inr ⟨u,d5,ou⟩,k5⟩,tk,va,_,_,rfl,rfl,?_⟩;have Zx:Qz rf b (m+l)->J (i+1) [some (.ref td),some (.int goal),some (.ref hd),some (.bl true),some (.int b),some (.int x),some (.int (m+l))] (ü H5 hd (.dK (io (rf.map oZ) (Sum.inl b) (.int (m+l))))):=λfl=>by
    have kp:=gM (o:=.dK (io (rf.map oZ) (Sum.inl b) (.int (m+l)))) (vm.dk e5);refine⟨vq rf b (m+l),true,_,_,_,rfl,λb o nb e=>?_,by rw[aN (bS XH)];exact d5,by rw[aB,VJ],λp hp=>(k5 p hp).kept kp,h4.put Lg l1 l2 em fl,.inl ⟨rfl,?_⟩⟩
    .have:b≠hd:=λz=>(by rw[z,Zw]at e;cases e);rw[aN this];exact x5 b o nb e
    have:=h4.Zv Lg l1 l2 em fl;rcases hf with⟨_,hf⟩|⟨_,rfl,_⟩
    .lia
    exact this
   refine⟨_,rfl,_,rfl,hd,_,rfl,gg.k (k:=Sum.inl b) e5,?_⟩;rw[sY];cases eb:lk rf b with
   |none =>
    refine⟨true,rfl,ig (ig ?_)⟩;refine⟨_,rfl,_,rfl,_,rfl,hd,_,rfl,.inl ⟨_,Sum.inl b,e5,rfl,by rw[aJ];lia,rfl⟩,?_⟩;exact Zx (.inl eb)
   |some n =>
    have gv2:gg H5 hd (.int b) (some (.int n)):=by have:=gg.k (k:=Sum.inl b) e5;rw[sY,eb]at this;exact this
    refine⟨false,rfl,c9 ?_⟩;refine⟨_,rfl,_,rfl,_,rfl,hd,.int n,rfl,gv2,_,_,rfl,rfl,_,rfl,?_⟩;by_cases c:m+l<n
    .refine fe c ?_;refine⟨_,rfl,_,rfl,_,rfl,hd,_,rfl,.inl ⟨_,Sum.inl b,e5,rfl,by rw[aJ];lia,rfl⟩,?_⟩;exact Zx (.inr ⟨n,eb,c⟩)
    refine eT c ?_;refine rF x5 d5 e5 k5 λb' x' z m' UM=>?_;simp only[jK,fV]at z;obtain⟨rfl,rfl⟩:=z;rw[em]at UM;cases UM;exact⟨n,eb,by show n<=m+l;lia⟩
 rintro Z H4 ⟨rf,f,v4,v5,v6,rfl,x4,d4,e4,k4,h4,hf⟩;refine⟨td,xs,u,ou,d4,?_⟩;have s5:aI H (ü H4 td (jP td xs)):=λb o e=>by
  by_cases nb:b=td
  .rw[nb,aB,<-hL.d,<-nb,e]
  rw[aN nb];exact x4 b o nb e
 have e5:(ü H4 td (jP td xs)) hd=some (.dK (rf.map oZ)):=by rw[aN XH];exact e4
 rcases hf with⟨rfl,hf⟩|⟨rfl,rfl,cl⟩
 .exact⟨mu L rf+1,by lia,rf,true,_,_,_,rfl,s5,e5,h4,.inl ⟨rfl,rfl⟩⟩
 rw[xll,eV]at cl;exact⟨0,by lia,rf,false,_,_,_,rfl,s5,e5,h4,.inr ⟨rfl,rfl,cl⟩⟩
def ue(hv:Hv)(x:Int)(e:Tk×Int):Option Int:=if e.1.headD 0=x/\(lk hv (e.1.getD 1 0)).map (·+e.2)=lk hv x then some (e.1.getD 1 0)else none
structure Fin(L:List (Tk×Int))(goal:Int)(hv:Hv):Prop where
 h:Ht L goal hv
 c:∀e∈L,OT hv e
 ok:BY L
 sy:∀a b l,([a,b],l)∈L->([b,a],l)∈L
def Fin.step{hv:Hv}(f:Fin L goal hv){n:Int}(hx:lk hv x=some n)(ne:x≠goal):∃e l m,([x,e],l)∈L/\lk hv e=some m/\m+l=n:=by obtain⟨e,l,m,h1,h2,h3⟩:=f.h.par x n hx ne;obtain⟨n',h4,h5⟩:=f.c _ h1 x e rfl m h2;rw[hx]at h4;cases h4;exact⟨e,l,m,h1,h2,by show m+l=n;have:n<=m+l:=h5;lia⟩
def Fin.near{hv:Hv}(f:Fin L goal hv){n e l:Int}(hx:lk hv x=some n)(he:([x,e],l)∈L):∃m,lk hv e=some m:=by obtain⟨m,h4,h5⟩:=f.c _ (f.sy _ _ _ he) e x rfl n hx;exact⟨m,h4⟩
def VL(L:List (Tk×Int))(hv:Hv)(x e:Int):Prop:=(∃l m,([x,e],l)∈L/\lk hv e=some m/\lk hv x=some (m+l))/\∀e' l' m',([x,e'],l')∈L->lk hv e'=some m'->lk hv x=some (m'+l')->e<=e'
inductive sZ(K:Ni)(vs:List V)(H:Hp)(Q:VK)(_:XK):Prop
 |mk (td hd:JY) (x n goal:Int) (L:List (Tk×Int)) (xs:TX) (hv:Hv) (_:vs=[.ref td,.ref hd,.int x]) (_:vp K H td L xs) (_:H hd=some (.dK (hv.map oZ))) (_:Fin L goal hv) (_:L.length<=1000) (_:lk hv x=some n) (_:x≠goal) (_:∀(e:Int)(H':Hp),aI H H'->VL L hv x e->Q (.int e) H')
def CM:aM ["lengths","heights","house"] ["lengths","heights","house"] (aH jX):=ac
def CN(F:aY K mg "next_house" jX)(T:Txt K mg t):ã P w K mg à 1 "next_house" ["lengths","heights","house"] (sZ K):=by
 refine F.eY CM λf bM A á s H vs Q E hr h=>?_;obtain⟨td,hd,x,n,goal,L,xs,hv,rfl,hL,hH,fin,ll,hx,ne,q⟩:=h;refine⟨_,aE (aQ (bW (Nf K) (by rfl) T.Zj boot_min (aA (C8 (AW rfl (Nc:=["begin","end","house","heights","lengths"]) (ix:=[none,none,some 2,some 1,some 0]) (iG (aH jX) ["lengths","heights","house"] rfl rfl (by decide +kernel)) (jh (pv 0)) (λC fp s H=>⟨(iS K (i:=0) (j:=1) rfl (show(["begin","end","house","heights","lengths"]:List Str).Nodup by decide +kernel) rfl rfl (Or.inl rfl) (Or.inl rfl)),(zA (PW.pt (J6 (bI jN (pv 0) (pv 2)) (EN (bI jN (aT bT (iT (ie hr) (pv 3) (pv 1) (λ_ _=>rfl)) (kg K (dU hr) (pv 4) (c5 (aA (pv 0) (aA (pv 1) aD))) (λ_ _=>rfl))) (iT (ie hr) (pv 3) (pv 2) (λ_ _=>rfl))))))),(pv 1)⟩))) aD))),?_⟩;have hsz:=bZ;have xll:xs.length=L.length:=by
  have:=az List.length hL.m
  rwa [aJ,aJ]at this
 have XH:hd≠td:=xy hH hL.d (by intro z;cases z);refine⟨_,rfl,td,xs,rfl,hL.d,λu ou D hD=>?_⟩;have kz:=gM (o:=u) (vm.UJ hL.d);have d1:=@aB H td u;have e1:(ü H td u) hd=some (.dK (hv.map oZ)):=by rw[aN XH];exact hH
 have k1:∀p∈xs,dF K (ü H td u) p.2.1 p.1:=λp hp=>(hL.k p hp).kept kz;have x1:∀b o,b≠td->H b=some o->(ü H td u) b=some o:=λb o nb e=>by rw[aN nb];exact e
 generalize ü H td u=H1 at d1 e1 k1 x1 hD ⊢;refine C9 (d:=td) (u:=u) (xs:=xs) (λi Z H'=>∃v0 v1:Option V,Z=[v0,v1,some (.int x),some (.ref hd),some (.ref td)]/\aI H1 H'/\H' D=some (.lst (((L.take i).filterMap (ue hv x)).map V.int))) ⟨none,none,rfl,(aI.refl _).new hD,aB⟩ (λi Z H' _ h_=>by obtain⟨_,_,_,s,_⟩:=h_;exact s _ _ d1) ?_ ?_
 .rintro i p Z H4 N hN hi ⟨v0,v1,rfl,s4,e4⟩;obtain⟨b,y,l,ee,Lg,⟨l1,l2⟩,g1⟩:=M5 fin.ok hL.m hi ((k1 p (bL hi)).same s4);have il:i<L.length:=(bq.mp ee).1;have VM:(L.take (i+1)).filterMap (ue hv x)=(L.take i).filterMap (ue hv x)++(ue hv x ([b,y],l)).toList:=by
   rw[þ ee,Jn]
   congr 1
  have cl:((L.take i).filterMap (ue hv x)).length<=1000:=by have:=aAl (ue hv x) (L.take i);rw[cc]at this;lia
  have skip:∀{H5:Hp},aI H4 H5->ue hv x ([b,y],l)=none->N [some (.int b),some (.int y),some (.int x),some (.ref hd),some (.ref td)] H5:=λs5 c=>hN _ _ ⟨_,_,rfl,s4.trans s5,by rw[VM,c];simpa using s5 _ _ e4⟩;refine⟨p.2.1,_,rfl,g1,rfl,_,_,rfl,_,_,rfl,rfl,?_⟩;refine⟨_,rfl,_,rfl,rfl,_,rfl,?_⟩;by_cases c:b=x
  .refine fe (az V.int c) ?_;obtain⟨m,hm⟩:=fin.near hx (show([x,y],l)∈L by rw[<-c];exact Lg);have gv:gg H4 hd (.int y) (some (.int m)):=by have:=gg.k (k:=Sum.inl y) (s4 _ _ e1);rw[sY,hm]at this;exact this
   refine⟨_,rfl,_,rfl,hd,.int m,rfl,gv,_,rfl,_,rfl,_,rfl,ó,λkt XE=>?_⟩;have s5:=(aI.refl H4).new (o:=.tup [.int b,.int y]) XE;have tk:dF K (ü H4 kt (.tup [.int b,.int y])) kt [b,y]:=⟨.inl ⟨_,_,rfl,bO.of aB⟩⟩;generalize ü H4 kt (.tup [.int b,.int y])=H5 at s5 tk ⊢;have S5:=s4.trans s5;have va:ir xs [b,y]=some (.int l):=by rw[xm hL.m,(fF fin.ok.1).mpr Lg];rfl
   have gv2:gg H5 hd (.int x) (some (.int n)):=by have:=gg.k (k:=Sum.inl x) (S5 _ _ e1);rw[sY,hx]at this;exact this
   refine⟨td,kt,xs,_,_,rfl,rfl,⟨.inr ⟨u,S5 _ _ d1,ou⟩,λp hp=>(k1 p hp).same S5⟩,tk,va,_,_,rfl,rfl,_,rfl,_,rfl,hd,.int n,rfl,gv2,rfl,_,rfl,?_⟩;by_cases c2:m+l=n
   .refine fe (az V.int c2) ?_;have cd:ue hv x ([b,y],l)=some y:=by unfold ue;exact aL ⟨c,by show(lk hv y).map (·+l)=lk hv x;rw[hm,hx];show some (m+l)=some n;rw[c2]⟩
    refine⟨_,rfl,_,s5 _ _ e4,by rw[aJ];lia,hN _ _ ⟨_,_,rfl,S5.put hD,?_⟩⟩;rw[aB,VM,cd,bD];rfl
   refine eT (λz=>c2 (V.int.inj z)) ?_;refine skip s5 ?_;unfold ue;refine aK λz=>c2 ?_;have z2:(lk hv y).map (·+l)=lk hv x:=z.2;rw[hm,hx]at z2;exact bR z2
  refine eT (λz=>c (V.int.inj z)) ?_;refine skip (.refl _) ?_;unfold ue;exact aK λz=>c z.1
 rintro Z H4 ⟨v0,v1,rfl,s4,e4⟩;rw[xll,eV]at e4;refine⟨td,xs,u,ou,s4 _ _ d1,?_⟩;have s5:aI H (ü H4 td (jP td xs)):=λb o e=>by
  by_cases nb:b=td
  .rw[nb,aB,<-hL.d,<-nb,e]
  rw[aN nb];exact s4 b o (x1 b o nb e)
 have nD:D≠td:=λz=>by rw[z,d1]at hD;cases hD
 have e5:(ü H4 td (jP td xs)) D=some (.lst ((L.filterMap (ue hv x)).map V.int)):=by rw[aN nD];exact e4
 have mem:∀e,e∈L.filterMap (ue hv x)↔∃l m,([x,e],l)∈L/\lk hv e=some m/\lk hv x=some (m+l):=λe=>by
  rw[Dg];constructor
  .rintro⟨⟨kk,l⟩,h1,h2⟩;obtain⟨b,y,hk,_⟩:=fin.ok.2 _ h1;obtain rfl:kk=[b,y]:=hk;unfold ue at h2;split at h2
   .rename_i z;cases h2;obtain⟨z1,z2⟩:=z;have z1':b=x:=z1;have z2':(lk hv y).map (·+l)=lk hv x:=z2;rw[z1']at h1;cases hm:lk hv y with
    |none=>rw[hm,hx]at z2';cases z2'
    |some m=>rw[hm]at z2';exact⟨l,m,h1,hm,z2'.symm⟩
   cases h2
  rintro⟨l,m,h1,h2,h3⟩;refine⟨_,h1,?_⟩;unfold ue;exact aL ⟨rfl,by show(lk hv e).map (·+l)=lk hv x;rw[h2,h3];rfl⟩
 refine⟨D,_,rfl,aX.of e5,λz=>?_,λM hM hle=>q M _ s5 ⟨(mem M).mp hM,λe' l' m' h1 h2 h3=>hle e' ((mem e').mpr ⟨l',m',h1,h2,h3⟩)⟩⟩;obtain⟨e,l,m,h1,h2,h3⟩:=fin.step hx ne;have:=(mem e).mpr ⟨l,m,h1,h2,by rw[hx,h3]⟩;rw[z]at this;cases this
inductive Gr(L:List (Tk×Int))(hv:Hv)(goal:Int):Int->List Int->Prop
 |done:Gr L hv goal goal [goal]
 |step {x e:Int} {ws:List Int}:x≠goal->VL L hv x e->Gr L hv goal e ws->Gr L hv goal x (x::ws)
inductive vv(K:Ni)(vs:List V)(H:Hp)(Q:VK)(_:XK):Prop
 |mk (td hd:JY) (one n goal:Int) (L:List (Tk×Int)) (xs:TX) (hv:Hv) (_:vs=[.ref td,.ref hd,.int one,.int goal]) (_:vp K H td L xs) (_:H hd=some (.dK (hv.map oZ))) (_:Fin L goal hv) (_:L.length<=200) (_:lk hv one=some n) (_:∀(r:JY)(ws:List Int)(H':Hp),aI H H'->bO K H' r (ws.map V.int)->Gr L hv goal one ws->Q (.ref r) H')
def vw:aM ["lengths","heights","one","goal","way"] ["lengths","heights","one","goal"] (aH pT):=ac
def Fk(F:aY K mg "least_way" pT)(T:Txt K mg t)(oB:ã P w K mg à 1 "next_house" ["lengths","heights","house"] (sZ K)):ã P w K mg à 2 "least_way" ["lengths","heights","one","goal"] (vv K):=by
 refine F.eY vw λf bM A á s H vs Q E hr h=>?_;obtain⟨td,hd,one,n,goal,L,xs,hv,rfl,hL,hH,fin,ll,hx,q⟩:=h;refine⟨_,aC (aV 4 vw (bJ (aA (pv 2) aD)))
  (aC (PS.J7 (uy oh (bI rZ (ah (aZ K) (pv 4) (AN t9 aF)) (pv 3))
   (aE (bA (ff K oa xt xr fK (pv 4) (aA (aO oB hr (aA (pv 0) (aA (pv 1) (aA (ah (aZ K) (pv 4) (AN t9 aF)) aD)))) aD))))))
  (aE (aQ (av (cW K) (by rfl) T.gG i6 (aA (pv 4) aD))))),?_⟩
 have hsz:(300000:Nat)<=sizeLine:=by decide
 refine⟨_,rfl,ò,λwl Us=>?_⟩;obtain⟨H1,ja,s1,e1⟩:=nL (aI.refl H) (o:=.lst [.int one]) Us;rw[ja];have n0:n<=200000:=by have:=fin.h.bd _ _ hx;have:=fin.h.size;lia
 let W:Nat->L2.St->Hp->Prop:=λk Z H'=>∃(pre:List Int)(x m:Int),Z=[some (.ref td),some (.ref hd),some (.int one),some (.int goal),some (.ref wl)]/\aI H H'/\H' wl=some (.lst ((pre++[x]).map V.int))/\lk hv x=some m/\k=m.toNat/\(pre.length:Int)+m<=n/\∀t,Gr L hv goal x (x::t)->Gr L hv goal one (pre++x::t)
 refine⟨W,⟨n.toNat,[],one,n,rfl,s1,e1,hx,rfl,by show((0:Nat):Int)+n<=n;lia,λt h=>h⟩,?_⟩;rintro k Z H2 ⟨pre,x,m,rfl,s2,e2,hm,rfl,pl,gr⟩;have m0:=fin.h.pos _ _ hm;have la:rH ((pre++[x]).map V.int) (-1)=some (V.int x):=by rw[bD];exact Gc _ _
 refine⟨_,rfl,1,rfl,wl,_,_,.int x,rfl,rfl,aX.of e2,la,_,rfl,rfl,_,rfl,?_⟩;by_cases c:x=goal
 .refine ij (az V.int c) ?_;subst c;refine⟨_,rfl,wl,_,rfl,.inl ⟨aX.of e2,λr hr=>?_⟩⟩;exact q r (pre++[x]) _ (s2.new hr) (bO.of aB) (gr [] .done)
 refine Gj (λz=>c (V.int.inj z)) ?_;refine⟨λZ' H'=>∃m',m'<m.toNat/\W m' Z' H',λZ' H' z=>z,?_⟩;refine⟨_,rfl,.inl ⟨rfl,_,aX.of e2⟩,_,rfl,_,rfl,_,rfl,1,rfl,wl,_,_,.int x,rfl,rfl,aX.of e2,la,td,hd,x,m,goal,L,xs,hv,rfl,hL.same s2,s2 _ _ hH,fin,by lia,hm,c,λe H3 s3 nx=>?_⟩;have e3:=s3 _ _ e2;refine⟨wl,_,_,rfl,rfl,e3,by rw[aJ,bV];show pre.length+1<_;lia,?_⟩;obtain⟨⟨l,m',h1,h2,h3⟩,_⟩:=id nx;rw[hm]at h3;cases h3;obtain⟨_,_,_,l1,_⟩:=fin.ok.2 _ h1;have l1':1<=l:=l1;have m1:=fin.h.pos _ _ h2;refine⟨m'.toNat,by lia,pre++[x],e,m',rfl,(s2.trans s3).put Us,by rw[aB,bD (l₁:=pre++[x])];rfl,h2,rfl,by rw[bV];show((pre.length+1:Nat):Int)+m'<=n;lia,λt h=>?_⟩;rw[jH];exact gr (e::t) (.step c nx h)
def adr:V->JY
 |.ref a=>a
 |_=>0
def Lh(ms:Ms):Prop:=∀m∈ms,∀w∈m.2.near,1<=w.q/\w.q<=10
def uf{ms:Ms}{ts:List T3}(hq:Lh ms)(hm:∀t,t∈ts↔fE ms t)(td:Rw ts):BY (iM ts)/\∀a b l,([a,b],l)∈iM ts->([b,a],l)∈iM ts:=by
 refine⟨⟨kI td,λe he=>?_⟩,λa b l h=>?_⟩
 .obtain⟨t,ht,z⟩:=kr.mp he;obtain⟨_,m1,h1,m2,h2,w1,g1,w2,g2,_,_,_,_,_,_,a5⟩:=(hm t).mp ht;have q1:=hq m1 h1 w1 g1;have q2:=hq m2 h2 w2 g2;have:1<=t.2.2/\t.2.2<=1000:=by lia
  rcases z with rfl|rfl
  .exact⟨_,_,rfl,this⟩
  exact⟨_,_,rfl,this⟩
 obtain⟨t,ht,z⟩:=kr.mp h;refine kr.mpr ⟨t,ht,?_⟩;rcases z with z|z
 .cases z;exact .inr rfl
 cases z;exact .inl rfl
def Fin.of{ms:Ms}{ts:List T3}{hv:Hv}(hq:Lh ms)(hm:∀t,t∈ts↔fE ms t)(td:Rw ts)(h:Ht (iM ts) goal hv)(c:∀e∈iM ts,OT hv e):Fin (iM ts) goal hv:=⟨h,c,(uf hq hm td).1,(uf hq hm td).2⟩
def Ht.wM{ms:Ms}{ts:List T3}{hv:Hv}(h:Ht (iM ts) goal hv)(hm:∀t,t∈ts↔fE ms t):hv.length<=ms.length+1:=by
 have:=zP (goal::hs ms) (hv.map (·.1)) h.nd λx hx=>by
  cases e:lk hv x with
  |none=>exact absurd hx (gN.mp e)
  |some n =>
   by_cases c:x=goal
   .rw[c];exact bp
   obtain⟨e',l',m',h1,_⟩:=h.par x n e c;obtain⟨t,ht,z⟩:=kr.mp h1;obtain⟨_,m1,g1,m2,g2,_,_,_,_,a1,a2,_⟩:=(hm t).mp ht;refine bU _ ?_;rcases z with z|z
   .cases z;exact ao.mpr ⟨m1,g1,a1⟩
   cases z;exact ao.mpr ⟨m2,g2,a2⟩
 unfold hs at this;rw[aJ,cQ,aJ]at this;exact this
def VN(h n:Int):MX (.tuple [.int h,.int n])=true:=by simp[MX,iH]
def Q6{n:Nat}{a b:Int}(h:ar K H (n+1) v (.tuple [.int a,.int b])):∃p,v=.ref p/\bO K H p [.int a,.int b]:=by
 obtain⟨p,xs,rfl,h1,h2,h3⟩:=La h
 match xs,h2 with
 |[x,y],_ =>
  obtain rfl:=BU (h3 0 x _ rfl rfl);obtain rfl:=BU (h3 1 y _ rfl rfl);exact⟨p,rfl,h1⟩
def iN(hv:Hv)(ns:List Int):Hv:=ns.map λh=>(h,(lk hv h).getD 0)
inductive mT(K:Ni)(C:JY)(vs:List V)(H:Hp)(Q:VK)(_:XK):Prop
 |mk (x d:JY) (one Ā:Int) (ms:Ms) (_:vs=[.ref x,.int one,.int Ā]) (_:i0 K C H x d ms) (_:ms.length<=12) (_:vn ms) (_:Lh ms) (_:(∀(ts:List T3)(hv OP:Hv)(ns:List Int)(r p:JY)(H':Hp),aI H H'->(∀t,t∈ts↔fE ms t)->Rw ts->Fin (iM ts) Ā hv->lk hv one=none->Fin (iM ts) one OP->ns.Perm (OP.map (·.1))->ns.Pairwise (·<=·)->bO K H' r [.str "side",.ref p]->bO K H' p (ns.map V.int)->Q (.ref r) H')) (_:(∀(ts:List T3)(hv:Hv)(n:Int)(ns ws:List Int)(r p hl:JY)(H':Hp),aI H H'->(∀t,t∈ts↔fE ms t)->Rw ts->Fin (iM ts) Ā hv->lk hv one=some n->Gr (iM ts) hv Ā one ws->ns.Perm (hv.map (·.1))->ns.Pairwise (·<=·)->bO K H' r [.str "way",.ref p,.ref hl]->bO K H' p (ws.map V.int)->H hl=none->sX K H' hl (iN hv ns)->Q (.ref r) H'))
def mU:aM ["chart","one","other","lengths","heights","way"] ["chart","one","other"] (aH A2):=ac
def OU(F:aY K mg "way_of" A2)(T:Txt K mg t)(fQ:ã P w K mg à 3 "lengths_of" ["chart"] (lV K t.Map))(df:ã P w K mg à 1 "heights_to" ["lengths","goal"] (lX K))(qN:ã P w K mg à 2 "least_way" ["lengths","heights","one","goal"] (vv K)):ã P w K mg à 4 "way_of" ["chart","one","other"] (mT K t.Map):=by
 refine F.eY mU λf bM A á s H vs Q E hr h=>?_;obtain⟨x,d,one,Ā,ms,rfl,hM,ml,UP,hq,qs,qw⟩:=h;refine⟨_,aC (aV 3 mU (aO fQ hr (aA (pv 0) aD)))
  (aC (aV 4 mU (aO df hr (aA (pv 3) (aA (pv 2) aD))))
  (aC (ax (EM (xF (ie hr) (pv 1) (pv 4)) (by rfl))
   (aE (aQ (c5 (aA cE (aA (av (cW K) (by rfl) T.gG i6 (aA (bW (jV (dU hr)) (by rfl) T.hJ me (aA (aO df hr (aA (pv 3) (aA (pv 1) aD))) aD)) aD)) aD)))))
   (aW))
  (aC (aV 5 mU (aO qN hr (aA (pv 3) (aA (pv 4) (aA (pv 1) (aA (pv 2) aD))))))
  (aE (aQ (c5 (aA cE (aA (pv 5) (aA (j7 (Nc:=["house","heights"]) (ix:=[none,some 4]) mU (bH K (bW (jV (dU hr)) (by rfl) T.hJ me (aA (pv 4) aD))) (λC fp s H=>⟨bN,(c5 (aA (pv 0) (aA (iT (ie hr) (pv 1) (pv 0) (λ_ _=>rfl)) aD)))⟩)) aD))))))))),?_⟩
 have hsz:=bZ;refine⟨_,rfl,x,d,ms,rfl,hM,ml,UP,λtd H1 ts xs s1 ntd hL hm Io tl=>?_⟩;have el:(iM ts).length<=200:=by rw[Fj];lia
 refine⟨_,rfl,_,rfl,td,Ā,iM ts,xs,rfl,hL,(uf hq hm Io).1,by lia,λhd H2 hv s2 nhd e2 ht cl=>?_⟩;have fin:=Fin.of hq hm Io ht cl;have S2:=s1.trans s2;refine⟨_,rfl,_,rfl,hd,_,rfl,gg.k (k:=Sum.inl one) e2,?_⟩;rw[sY];cases en:lk hv one with
 |none =>
  refine⟨true,rfl,ig ?_⟩;refine⟨_,rfl,_,rfl,td,one,iM ts,xs,rfl,hL.same s2,(uf hq hm Io).1,by lia,λhd2 H3 OP s3 n3 e3 ht2 cl2=>?_⟩;have f2:=ht2.wM hm;refine⟨hd2,_,OP.map (·.1),rfl,e3,by rw[bB,bB];rfl,by rw[aJ];lia,λys sl hp JT Rv=>?_⟩;have s4:=(aI.refl H3).new (o:=.lst (ys.map V.int)) Rv;refine⟨sl,_,rfl,.inl ⟨aX.of aB,λp hp'=>?_⟩⟩;have s5:=s4.new (o:=.tup (ys.map V.int)) hp';refine⟨ó,λr hr=>?_⟩;have s6:=s5.new (o:=.tup [.str "side",.ref p]) hr;exact qs ts hv OP ys r p _ (S2.trans (s3.trans s6)) hm Io fin en (Fin.of hq hm Io ht2 cl2) hp JT (bO.of aB) (bO.of (by rw[aN (aP aB hr)];exact aB))
 |some n =>
  refine⟨false,rfl,c9 ?_⟩;refine⟨_,rfl,_,rfl,_,rfl,_,rfl,td,hd,one,n,Ā,iM ts,xs,hv,rfl,hL.same s2,e2,fin,el,en,λp ws H3 s3 hp gr=>?_⟩;have f1:=ht.wM hm;have e3:=s3 _ _ e2;refine⟨_,rfl,_,rfl,hd,_,hv.map (·.1),rfl,e3,by rw[bB,bB];rfl,by rw[aJ];lia,λys sl Xt JT Rv=>?_⟩;have yl:ys.length<=20:=by rw[Xt.length_eq,aJ];lia
  obtain⟨H4,ja,s4,e4⟩:=nL (aI.refl H3) (o:=.lst (ys.map V.int)) Rv;rw[ja];refine⟨sl,rfl,⟨_,aX.of e4⟩,λD hD=>?_⟩;refine iR (K:=K) (a:=sl) (xs:=ys.map V.int) (λi Z H'=>∃(v:Option V)(zs:List (V×Int)),Z=[v,some (.ref hd)]/\aI H4 H'/\H' D=some (.lst (zs.map (·.1)))/\zs.map (·.2)=ys.take i/\∀z∈zs,ar K H' 2 z.1 (.tuple [.int z.2,.int ((lk hv z.2).getD 0)])) ⟨none,[],rfl,(aI.refl _).new hD,aB,rfl,λz hz=>absurd hz bE⟩ (λi Z H' _ h_=>by obtain⟨_,_,_,s,_⟩:=h_;exact aX.of (s _ _ e4)) ?_ ?_
  .rintro i y Z H5 N hN hi ⟨v,zs,rfl,s5,e5,m5,t5⟩;obtain⟨h,ho,rfl⟩:=dH hi;have Sn:i<ys.length:=(bq.mp ho).1;have hk:=Xt.mem_iff.mp (bL ho);obtain⟨k,hk⟩:∃k,lk hv h=some k:=by
    cases e:lk hv h with
    |none=>exact absurd hk (gN.mp e)
    |some k=>exact⟨k,rfl⟩
   have gv:gg H5 hd (.int h) (some (.int k)):=by have:=gg.k (k:=Sum.inl h) ((s4.trans s5) _ _ e3);rw[sY,hk]at this;exact this
   have zl:zs.length<=20:=by have:=az List.length m5;rw[aJ,cc]at this;lia
   refine cA ?_;refine⟨_,rfl,_,rfl,_,rfl,hd,.int k,rfl,gv,ó,λtp OQ=>?_⟩;have s6:=(aI.refl H5).new (o:=.tup [.int h,.int k]) OQ;have dn:ar K (ü H5 tp (.tup [.int h,.int k])) 2 (.ref tp) (.tuple [.int h,.int ((lk hv h).getD 0)]):=by
    rw[hk];refine .tup (bO.of aB) rfl λi v d e1 e2=>?_
    match i with
    |0=>cases e1;cases e2;exact .int _
    |1=>cases e1;cases e2;exact .int _
    |i+2=>simp at e1
   generalize ü H5 tp (.tup [.int h,.int k])=H6 at s6 dn;have e6:=s6 _ _ e5;have kp:=gM (o:=.lst (zs.map (·.1)++[V.ref tp])) (vm.lst e6);refine⟨_,e6,by rw[aJ];lia,hN _ _ ⟨_,zs++[(.ref tp,h)],rfl,(s5.trans s6).put hD,by rw[aB,bD];rfl,by rw[bD,m5,þ ho];rfl,λz hz=>?_⟩⟩;rcases cH.mp hz with h|h
   .exact((t5 z h).same s6).kept kp (VN _ _)
   rw[bX.mp h];exact dn.kept kp (VN _ _)
  rintro Z H5 ⟨v,zs,rfl,s5,e5,m5,t5⟩;rw[aJ,eV]at m5;refine⟨ô,λr hr=>?_⟩;have s6:=(aI.refl H5).new (o:=.tup [.str "way",.ref p,.ref D]) hr;have S:=s4.trans (s5.trans s6);refine qw ts hv n ys ws r p D _ (S2.trans (s3.trans S)) hm Io fin en gr Xt JT (bO.of aB) (S.tup hp) ((S2.trans (s3.trans s4)).free hD) ⟨zs.map λz=>(adr z.1,z.2,(lk hv z.2).getD 0),?_,λz hz=>?_,?_⟩
  .rw[s6 _ _ e5,bB]
   congr 2
   refine iY λz hz=>?_;obtain⟨p,ep,_⟩:=Q6 (t5 z hz);show z.1=V.ref (adr z.1);rw[ep];rfl
  .obtain⟨y,hy,rfl⟩:=ao.mp hz;obtain⟨p,ep,g⟩:=Q6 ((t5 y hy).same s6);show bO K _ (adr y.1) _;rw[ep];exact g
  unfold iN;rw[<-m5,bB,bB];rfl
inductive Wk(L:List (Tk×Int))(goal:Int):Int->Int->Prop
 |nil:Wk L goal goal 0
 |cons {x e l s:Int}:([x,e],l)∈L->Wk L goal e s->Wk L goal x (l+s)
def Fin.le{hv:Hv}(f:Fin L goal hv)(w:Wk L goal x s):∃n,lk hv x=some n/\n<=s:=by
 induction w with
 |nil=>exact⟨0,f.h.g,lC _⟩
 |@cons x e l s h w ih =>
  obtain⟨m,h1,h2⟩:=ih;obtain⟨n,h3,h4⟩:=f.c _ h x e rfl m h1;have h5:n<=m+l:=h4;exact⟨n,h3,by lia⟩
def Fin.pos{hv:Hv}(f:Fin L goal hv){e l:Int}(h:([x,e],l)∈L):1<=l:=by obtain⟨_,_,_,h1,_⟩:=f.ok.2 _ h;exact h1
def Fin.wk{L:List (Tk×Int)}{goal:Int}{hv:Hv}(f:Fin L goal hv):∀(k:Nat){x n:Int},n.toNat<=k->lk hv x=some n->Wk L goal x n
 |k,x,n,hk,hx=>by
  by_cases c:x=goal
  .subst c;rw[f.h.g]at hx;cases hx;exact .nil
  obtain⟨e,l,m,h1,h2,h3⟩:=f.step hx c;have l1:=f.pos h1;have m0:=f.h.pos _ _ h2
  match k,hk with
  |0,hk=>lia
  |k+1,hk =>
   have:=f.wk k (x:=e) (n:=m) (by lia) h2;rw[show n=l+m by lia];exact .cons h1 this
inductive Wl(L:List (Tk×Int))(goal:Int):Int->List Int->Int->Prop
 |done:Wl L goal goal [goal] 0
 |step {x e l s:Int} {ws:List Int}:([x,e],l)∈L->Wl L goal e ws s->Wl L goal x (x::ws) (l+s)
def Wl.wk(h:Wl L goal x ws s):Wk L goal x s:=by
 induction h with
 |done=>exact .nil
 |step h _ ih=>exact .cons h ih
def Wl.head(h:Wl L goal x ws s):∃t,ws=x::t:=by
 cases h with
 |done=>exact⟨[],rfl⟩
 |step _ _=>exact⟨_,rfl⟩
def Gr.head{hv:Hv}(h:Gr L hv goal x ws):∃t,ws=x::t:=by
 cases h with
 |done=>exact⟨[],rfl⟩
 |step _ _ _=>exact⟨_,rfl⟩
def Gr.wl{hv:Hv}(f:Fin L goal hv)(h:Gr L hv goal x ws):∃n,lk hv x=some n/\Wl L goal x ws n:=by
 induction h with
 |done=>exact⟨0,f.h.g,.done⟩
 |@step x e ws ne nx g ih =>
  obtain⟨n,h1,h2⟩:=ih;obtain⟨⟨l,m,h3,h4,h5⟩,_⟩:=nx;rw[h1]at h4;cases h4;exact⟨_,h5,by rw[show n+l=l+n by lia];exact .step h3 h2⟩
def Gr.least{hv:Hv}(f:Fin L goal hv)(h:Gr L hv goal x ws):∀{vs:List Int}{s:Int},Wl L goal x vs s->lk hv x=some s->ws=vs\/ws<vs:=by
 induction h with
 |done =>
  intro vs s w hs;cases w with
  |done=>exact .inl rfl
  |@step _ e l s ws h w =>
   rw[f.h.g]at hs;have l1:=f.pos h;obtain⟨n,h1,h2⟩:=f.le w.wk;have:=f.h.pos _ _ h1;have:=bR hs;lia
 |@step x e ws ne nx g ih =>
  intro vs s w hs;cases w with
  |done=>exact absurd rfl ne
  |@step _ e' l s vs h w =>
   obtain⟨m,h1,h2⟩:=f.le w.wk;obtain⟨n,h3,h4⟩:=f.c _ h x e' rfl m h1;rw[hs]at h3;cases h3;have h5:l+s<=m+l:=h4;obtain rfl:m=s:=(by lia);have h6:e<=e':=nx.2 e' l m h h1 (by rw[hs];congr 1;lia);rcases Int.lt_or_eq_of_le h6 with c|c
   .obtain⟨t1,rfl⟩:=g.head;obtain⟨t2,rfl⟩:=w.head;exact .inr (List.Lex.cons (List.Lex.rel c))
   subst c;rcases ih w h1 with z|z
   .exact .inl (by rw[z])
   exact .inr (List.Lex.cons z)
def qO(L:List (Tk×Int)):List Int->Option Int
 |x::y::r=>(mR L [x,y]).bind λl=>(qO L (y::r)).map (l+·)
 |_=>some 0
def vx(L:List (Tk×Int))(x y:Int)(r:List Int):qO L (x::y::r)=(mR L [x,y]).bind λl=>(qO L (y::r)).map (l+·):=by rw[qO]
def vy(L:List (Tk×Int))(x:Int):qO L [x]=some 0:=by rw[qO];intro x y r z;cases z
def Zy{α:Type}{l:List α}{x y:α}(h1:l[i]?=some x)(h2:l[i+1]?=some y):l.drop i=x::y::l.drop (i+2)/\l.drop (i+1)=y::l.drop (i+2):=by
 obtain⟨i1,rfl⟩:=bq.mp h1;obtain⟨i2,rfl⟩:=bq.mp h2;have e2:l.drop (i+1)=l[i+1]::l.drop (i+2):=by rw[wQ i2]
 exact⟨by rw[wQ i1,e2],e2⟩
inductive se(K:Ni)(vs:List V)(H:Hp)(Q:VK)(_:XK):Prop
 |mk (td wa:JY) (L:List (Tk×Int)) (xs:TX) (ws:List Int) (tt:Int) (_:vs=[.ref td,.ref wa]) (_:vp K H td L xs) (_:bO K H wa (ws.map V.int)) (_:1<=ws.length) (_:ws.length<=1000) (_:qO L ws=some tt) (_:∀H',aI H H'->Q (.int tt) H')
def iW:aM ["lengths","way","total","wire"] ["lengths","way"] (aH nY):=ac
def CO(F:aY K mg "way_length" nY)(T:Txt K mg t):ã P w K mg à 1 "way_length" ["lengths","way"] (se K):=by
 refine F.eY iW λf bM A á s H vs Q E hr h=>?_;obtain⟨td,wa,L,xs,ws,tt,rfl,hL,hw,w1,wl,Us,q⟩:=h;refine⟨_,aC (aV 2 iW aF)
  (aC (cu (vP K (by rfl) T.IM (aA (pv 1) (aA (cP V0 (pv 1) (bj aF) jS) aD))) (bu 3 iW) (aC (ax (jR (Kt K (dU hr)) (pv 3) (pv 0) (by rfl))
    (aE (aQ eC))
    (aW))
   (aE (Vn (i:=2) iW.nd rfl (Or.inl rfl) (kg K (dU hr) (pv 0) (pv 3) (λ_ _=>rfl)) Vo))))
  (aE (aQ (pv 2)))),?_⟩
 refine⟨_,rfl,_,rfl,_,rfl,wa,_,rfl,hw,(by rintro⟨z,_⟩;rw[aJ]at z;simp only[HT.iP]at z;rw[aK (by decide)]at z;have:(1:Int).toNat=1:=rfl;lia),λr hr=>?_⟩;rw[zL (by decide),<-k9,show(1:Int).toNat=1 from rfl];have s1:=(aI.refl H).new (o:=.tup ((ws.drop 1).map V.int)) hr;have IX:bO K (ü H r (.tup ((ws.drop 1).map V.int))) r ((ws.drop 1).map V.int):=bO.of aB;generalize ü H r (.tup ((ws.drop 1).map V.int))=H1 at s1 IX ⊢;have dl:((ws.drop 1).map V.int).length=ws.length-1:=by rw[aJ,mX]
 let I:Nat->_->_->Prop:=λi Z H'=>∃(rN z:Int)(v3:Option V),Z=[some (.ref td),some (.ref wa),some (.int rN),v3]/\aI H1 H'/\qO L (ws.drop i)=some z/\tt=rN+z
 refine⟨false,false,wa,r,rfl,⟨_,s1.tup hw⟩,⟨_,IX⟩,Hk (K:=K) (u:=false) (v:=false) (a:=wa) (b:=r) (xs:=ws.map V.int) (ys:=(ws.drop 1).map V.int) _ (by rw[dl,aJ];lia) (ae _) (.inr ⟨by rw[dl,aJ];lia,ae _⟩) I ⟨0,tt,none,rfl,.refl _,Us,by lia⟩ (λi Z H' _ h_=>by obtain⟨_,_,_,_,s,_⟩:=h_;exact⟨(s1.trans s).tup hw,s.tup IX⟩) ?_ ?_⟩
 .rintro i x y p Z H2 hx hy ⟨rN,z,v3,rfl,s2,e2,et⟩ hp;obtain⟨a,ea,rfl⟩:=dH hx;obtain⟨b,eb,rfl⟩:=dH hy;have eb':ws[i+1]?=some b:=by rw[List.getElem?_drop]at eb;rw[AB];exact eb
  obtain⟨d1,d2⟩:=Zy ea eb';have s3:=(aI.refl H2).new (o:=.tup [.int a,.int b]) hp;have tk:dF K (ü H2 p (.tup [.int a,.int b])) p [a,b]:=⟨.inl ⟨_,_,rfl,bO.of aB⟩⟩;generalize ü H2 p (.tup [.int a,.int b])=H3 at s3 tk ⊢;have l3:=hL.same (s1.trans (s2.trans s3));have td3:TD K H3 td xs:=⟨.inl l3.d,l3.k⟩;rw[d1,vx]at e2;obtain⟨l,hl,e3⟩:=Option.bind_eq_some_iff.mp e2;obtain⟨z',e4,rfl⟩:=gk.mp e3;have vt:ir xs [a,b]=some (.int l):=by rw[xm hL.m,hl];rfl
  refine⟨_,rfl,_,rfl,td,p,xs,[a,b],rfl,rfl,td3,tk,_,rfl,?_⟩;rw[aL rfl];refine ij (tM (by rw[<-dX,vt];rfl)) ?_;refine⟨_,rfl,_,rfl,_,rfl,td,p,xs,[a,b],.int l,rfl,rfl,td3,tk,vt,_,_,rfl,rfl,?_⟩;exact⟨rN+l,z',_,rfl,s2.trans s3,by rw[d2];exact e4,by lia⟩
 rintro Z H2 ⟨rN,z,v3,rfl,s2,e2,et⟩;have dd:ws.drop (ws.length-1)=[ws[ws.length-1]'(by lia)]:=by rw[wQ (by lia),List.drop_eq_nil_of_le (by lia)]
 rw[dl,dd,vy]at e2;cases e2;refine⟨_,rfl,?_⟩;show Q (.int rN) H2;rw[show rN=tt by lia];exact q H2 (s1.trans s2)
structure Q7(ws:List Int)(one Ā:Int):Prop where
 h:ws[0]?=some one
 l:ws.getLast?=some Ā
 n:ws.Nodup
inductive oT(K:Ni)(vs:List V)(H:Hp)(Q:VK)(_:XK):Prop
 |mk (wa:JY) (ws:List Int) (one Ā:Int) (_:vs=[.ref wa,.int one,.int Ā]) (_:bO K H wa (ws.map V.int)) (_:ws.length<=1000) (_:Q7 ws one Ā) (_:∀H',aI H H'->Q (.bl true) H')
def yv:aM ["way","one","other"] ["way","one","other"] (aH kB):=ac
def yw(F:aY K mg "goes_from_to" kB)(T:Txt K mg t):ã P w K mg à 1 "goes_from_to" ["way","one","other"] (oT K):=by
 refine F.eY yv λf bM A á s H vs Q E hr h=>?_;obtain⟨wa,ws,one,Ā,rfl,hw,wl,g,q⟩:=h;refine⟨_,aE (aQ (oy (dY x6 (cv K T.cS (pv 0)) aF (iF _)) (oy (dY jN (ah (ay K) (pv 0) aF) (pv 1) (iF _)) (oy (dY jN (ah (ay K) (pv 0) (AN t9 aF)) (pv 2) (iF _)) (tf (dY jN (bW (xJ P w) (by rfl) T.cS boot_len (aA (av (qp P w K) (by rfl) T.Mp boot_set (aA (pv 0) aD)) aD)) (cv K T.cS (pv 0)) (iF _))))))),?_⟩;have sb:2000<scanBound:=by decide
 have ea:=g.h;have c0:=(bq.mp ea).1;refine⟨_,rfl,wa,_,rfl,.inr hw,_,_,rfl,rfl,_,rfl,fe (by rw[aJ];lia) ?_⟩;refine⟨_,rfl,wa,_,_,.int one,rfl,rfl,hw,(by have z:=jT (show(ws.map V.int)[0]?=some (V.int one) by rw[bh,ea];rfl);exact z),_,rfl,rfl,_,rfl,fe rfl ?_⟩;obtain⟨pre,z,rfl⟩:∃pre z,ws=pre++[z]:=⟨ws.dropLast,ws.getLast (by intro e;rw[e]at ea;cases ea),(List.dropLast_concat_getLast _).symm⟩;have gl:=g.l;rw[List.getLast?_concat]at gl;have gl:=bR gl;subst gl;have la:rH ((pre++[z]).map V.int) (-1)=some (V.int z):=by rw[bD];exact Gc _ _
 refine⟨_,rfl,1,rfl,wa,_,_,.int z,rfl,rfl,hw,la,_,rfl,rfl,_,rfl,fe rfl ?_⟩;have hk:bO K H wa (((pre++[z]).map (Sum.inl:Int->ä)).map kV):=by rw[<-BV];exact hw
 refine⟨_,rfl,wa,(pre++[z]).map Sum.inl,rfl,.inr hk,by rw[aJ];lia,λp hp=>?_⟩;have s1:=(aI.refl H).new (o:=yH P w p ((pre++[z]).map (Sum.inl:Int->ä)).reverse) hp;refine⟨p,_,rfl,aB,_,rfl,wa,_,rfl,.inr (s1.tup hw),rfl,?_⟩;rw[(o9 _).mpr (xf.mpr (xk.mpr g.n)),rT,aJ,aJ,bw rfl];exact q _ s1
def vz{n:Nat}{a:JY}{xs:List Int}(h:aX K H a (xs.map V.int)):ar K H (n+1) (.ref a) (.list (xs.map .int)):=by
 refine .lst h (by rw[aJ,aJ]) λi x d e1 e2=>?_;rw[bh]at e1 e2;cases e:xs[i]? with
 |none=>rw[e]at e1;cases e1
 |some o=>rw[e]at e1 e2;cases e1;cases e2;exact .int _
def DN{xs ys:List Int}(h1:xs.Pairwise (·<·))(h2:ys.Pairwise (·<·))(h:∀x,x∈xs↔x∈ys):xs=ys:=by
 have nn:∀{l:List Int},l.Pairwise (·<·)->l.Nodup:=λh=>h.imp λz e=>by lia
 have p:xs.Perm ys:=(aAi (nn h1) (nn h2)).mpr h;exact DS (le:=(·<·)) (λa b _ _ x y=>absurd y (by lia)) h1 h2 p
def v9{xs:List Int}(h:xs.Pairwise (·<=·))(nd:xs.Nodup):xs.Pairwise (·<·):=(h.and nd).imp λ⟨a,b⟩=>by lia
def Iq:∀(zs:List (JY×Int×Int))(ÿ:Hv),((ÿ++zs.map (·.2)).map (·.1)).Nodup->(zs.map λz=>((z.1,Sum.inl z.2.1,V.int z.2.2):VI)).foldl Oo (ÿ.map oZ)=(ÿ++zs.map (·.2)).map oZ
 |[],ÿ,_=>by simp
 |z::zs,ÿ,nd=>by
  rw[bz,wZ];have e:Oo (ÿ.map oZ) (z.1,Sum.inl z.2.1,V.int z.2.2)=(ÿ++[z.2]).map oZ:=by
   unfold Oo;have hn:z.2.1∉ÿ.map (·.1):=by rw[bz,bD,bz]at nd;intro hm;exact(uv.mp nd).2.2 _ hm _ bp rfl
   show io (ÿ.map oZ) (Sum.inl z.2.1) (.int z.2.2)=_;rw[VJ];unfold vq;rw[aK hn]
  rw[e,Iq zs (ÿ++[z.2]) (by rw[jH];exact nd),jH];rfl
structure yW(L:List (Tk×Int))(goal:Int)(ps:Hv):Prop where
 k:∀x,x∈ps.map (·.1)↔∃s,Wk L goal x s
 r:(ps.map (·.1)).Pairwise (·<·)
 g:lk ps goal=some 0
 e:∀b e l,([b,e],l)∈L->∀m n,lk ps b=some m->lk ps e=some n->m-n<=l
def Fin.keys{hv:Hv}(f:Fin L goal hv)(x:Int):x∈hv.map (·.1)↔∃s,Wk L goal x s:=by
 constructor
 .intro h;cases e:lk hv x with
  |none=>exact absurd h (gN.mp e)
  |some n=>exact⟨n,f.wk n.toNat (ae _) e⟩
 rintro⟨s,w⟩;obtain⟨n,h,_⟩:=f.le w;exact kU λz=>by rw[gN.mpr z]at h;cases h
def M6{hv:Hv}(h:x∈hv.map (·.1)):∃n,lk hv x=some n:=by
 cases e:lk hv x with
 |none=>exact absurd h (gN.mp e)
 |some n=>exact⟨n,rfl⟩
inductive oU(K:Ni)(vs:List V)(H:Hp)(Q:VK)(_:XK):Prop
 |mk (td hl:JY) (goal:Int) (L:List (Tk×Int)) (xs:TX) (ps:Hv) (_:vs=[.ref td,.int goal,.ref hl]) (_:vp K H td L xs) (_:BY L) (_:(∀a b l,([a,b],l)∈L->([b,a],l)∈L)) (_:L.length<=200) (_:(∀hv,Ht L goal hv->hv.length<=20)) (_:sX K H hl ps) (_:ps.length<=100) (_:yW L goal ps) (_:∀H',aI H H'->Q (.bl true) H')
def jF:aM ["lengths","goal","heights","height_of","begin","end"] ["lengths","goal","heights"] (aH g9):=ac
def yx(F:aY K mg "heights_hold" g9)(T:Txt K mg t)(df:ã P w K mg à 1 "heights_to" ["lengths","goal"] (lX K)):ã P w K mg à 2 "heights_hold" ["lengths","goal","heights"] (oU K):=by
 refine F.eY jF λf bM A á s H vs Q E hr h=>?_;obtain⟨td,hl,goal,L,xs,ps,rfl,hL,zQ,sy,ll,wM,hp,pl,hh,q1⟩:=h;refine⟨_,aC (ax (bI (nE K (dU hr)) (AW rfl (Nc:=["house","height"]) (ix:=[none,none]) (iG (aH g9) ["lengths","goal","heights","height_of","begin","end"] rfl rfl (by decide +kernel)) (bH K (pv 2)) (λC fp s H=>⟨(iS K (i:=0) (j:=1) rfl (show(["house","height"]:List Str).Nodup by decide +kernel) rfl rfl (Or.inl rfl) (Or.inl rfl)),bN,(pv 0)⟩)) (bW (jV (dU hr)) (by rfl) T.hJ me (aA (aO df hr (aA (pv 0) (aA (pv 1) aD))) aD)))
   (aE (aQ jw))
   (aW))
  (aC (aV 3 jF (av (Kx K (dU hr)) (by rfl) T.Wq boot_dict (aA (pv 2) aD)))
  (aC (ax (bI rZ (iT (ie hr) (pv 3) (pv 1) (λ_ _=>rfl)) aF)
   (aE (aQ jw))
   (aW))
  (aC (PS.J7 (xG (tu oh rfl (jh (pv 0)) (iS K (i:=4) (j:=5) rfl jF.nd rfl rfl (Or.inl rfl) (Or.inl rfl))
   (aE (ax (PW.pt (J6 (EM (Pk (ie hr) (pv 4) (pv 3)) (by rfl)) (EN (bI x6 (aT o4 (iT (ie hr) (pv 3) (pv 4) (λ_ _=>rfl)) (iT (ie hr) (pv 3) (pv 5) (λ_ _=>rfl))) (kg K (dU hr) (pv 0) (c5 (aA (pv 4) (aA (pv 5) aD))) (λ_ _=>rfl))))))
    (aE (aQ jw))
    (aW))))))
  (aE (aQ jw))))),?_⟩
 have hsz:=bZ;obtain⟨zs,z1,z2,z3⟩:=hp.ex;have zl:zs.length=ps.length:=by rw[<-z3,aJ]
 refine⟨_,rfl,hl,rfl,⟨_,aX.of z1⟩,λD hD=>?_⟩;refine iR (K:=K) (a:=hl) (xs:=zs.map λz=>V.ref z.1) (λi Z H'=>∃v0 v1:Option V,Z=[v0,v1]/\aI H H'/\H' D=some (.lst (((ps.take i).map (·.1)).map V.int))) ⟨none,none,rfl,(aI.refl _).new hD,aB⟩ (λi Z H' _ h_=>by obtain⟨_,_,_,s,_⟩:=h_;exact aX.of (s _ _ z1)) ?_ ?_
 .rintro i y Z H1 N hN hi ⟨v0,v1,rfl,s1,e1⟩;rw[bh]at hi;cases ez:zs[i]? with
  |none=>rw[ez]at hi;cases hi
  |some z =>
   rw[ez]at hi;cases hi;have il:i<ps.length:=(by rw[<-zl];exact(bq.mp ez).1);have ep:ps[i]?=some z.2:=(by rw[<-z3,bh,ez];rfl);refine⟨z.1,_,rfl,s1.tup (z2 z (bL ez)),rfl,_,_,rfl,_,_,rfl,rfl,?_⟩;show if true=true then J5 0 (([v0,v1].set 0 (some (V.int z.2.1))).set 1 (some (V.int z.2.2))) H1 (λv H5=>∃ys,H5 D=some (HO.lst ys)/\ys.length<sizeLine/\N (([v0,v1].set 0 (some (V.int z.2.1))).set 1 (some (V.int z.2.2))) (ü H5 D (HO.lst (ys++[v]))))else N (([v0,v1].set 0 (some (V.int z.2.1))).set 1 (some (V.int z.2.2))) H1;rw[aL rfl];refine⟨_,rfl,_,e1,by rw[aJ,aJ,cc];lia,hN _ _ ⟨_,_,rfl,s1.put hD,?_⟩⟩;rw[aB,þ ep,bD,bD];rfl
 rintro Z H1 ⟨v0,v1,rfl,s1,e1⟩;rw[aJ,zl,eV]at e1;refine⟨_,rfl,_,rfl,td,goal,L,xs,rfl,hL.same s1,zQ,by lia,λhd H2 hv s2 nhd e2 ht cl=>?_⟩;have fin:Fin L goal hv:=⟨ht,cl,zQ,sy⟩;have f1:=wM hv ht;refine⟨hd,_,hv.map (·.1),rfl,e2,by rw[bB,bB];rfl,by rw[aJ];lia,λys sl Xt JT Rv=>?_⟩;obtain⟨H3,ja,s3,e3⟩:=nL (aI.refl H2) (o:=.lst (ys.map V.int)) Rv;rw[ja];have S3:=s1.trans (s2.trans s3);have rys:ys.Pairwise (·<·):=v9 JT (Xt.nodup_iff.mpr ht.nd);have mys:∀x,x∈ys↔∃s,Wk L goal x s:=λx=>Xt.mem_iff.trans (fin.keys x);have ck:ps.map (·.1)=ys:=DN hh.r rys λx=>(hh.k x).trans (mys x).symm;have E1:ar K H3 8 (.ref D) (.list (ys.map .int)):=by rw[<-ck];exact vz (aX.of ((s2.trans s3) _ _ e1))
 refine⟨_,_,E1,vz (aX.of e3),_,rfl,?_⟩;rw[aL rfl,E1.eqv];refine(show if(!true)=true then _ else _ from c9 ?_);have mps:=hh.k;have nps:(ps.map (·.1)).Nodup:=hh.r.imp λz e=>by lia
 have fold:=Iq zs [] (by rw[Dz,z3];exact nps);rw[Dz,z3]at fold;refine⟨_,rfl,hl,zs.map λz=>(z.1,Sum.inl z.2.1,V.int z.2.2),rfl,by rw[bB];exact S3 _ _ z1,λq hq=>?_,λho hho=>?_⟩
 .obtain⟨z,hz,rfl⟩:=ao.mp hq;exact S3.tup (z2 z hz)
 have Zz:(zs.map λz=>((z.1,Sum.inl z.2.1,V.int z.2.2):VI)).foldl Oo []=ps.map oZ:=fold;rw[Zz];obtain⟨H4,ja,s4,e4⟩:=nL (aI.refl H3) (o:=.dK (ps.map oZ)) hho;rw[ja];have S4:=S3.trans s4;have eg:=hh.g;have gv:∀{H':Hp}{x n:Int},H' ho=some (.dK (ps.map oZ))->lk ps x=some n->gg H' ho (.int x) (some (.int n)):=λ{H' x n} e h=>by have:=gg.k (k:=Sum.inl x) e;rw[sY,h]at this;exact this
 refine⟨_,rfl,_,rfl,ho,.int 0,rfl,gv e4 eg,rfl,_,rfl,?_⟩;refine ij rfl ?_;have hLd:=S4 _ _ hL.d;refine⟨_,rfl,td,xs,rfl,hLd,λu ou=>?_⟩;have kz:=gM (o:=u) (vm.UJ hLd);have XH:ho≠td:=xy e4 hLd (by intro z;cases z);have k5:∀p∈xs,dF K (ü H4 td u) p.2.1 p.1:=λp hp=>((hL.k p hp).same S4).kept kz;have d5:=@aB H4 td u;have e5:(ü H4 td u) ho=some (.dK (ps.map oZ)):=by rw[aN XH];exact e4
 have x5:Sx td H (ü H4 td u):=λb o nb e=>by rw[aN nb];exact S4 b o e
 generalize ü H4 td u=H5 at k5 d5 e5 x5 ⊢
 let J:Nat->_->_->Prop:=λi Z H'=>∃v4 v5:Option V,Z=[some (.ref td),some (.int goal),some (.ref hl),some (.ref ho),v4,v5]/\aI H5 H'
 refine nG (d:=td) (u:=u) (xs:=xs) J ⟨none,none,rfl,.refl _⟩ (λi Z H' _ ⟨_,_,_,s⟩=>s _ _ d5) ?_ ?_
 .rintro i p Z H6 hi ⟨v4,v5,rfl,s6⟩;obtain⟨b,y,l,ee,Lg,⟨l1,l2⟩,g1⟩:=M5 zQ hL.m hi ((k5 p (bL hi)).same s6);refine⟨p.2.1,_,rfl,g1,rfl,_,_,rfl,_,_,rfl,rfl,?_⟩;have e6:=s6 _ _ e5;refine⟨_,rfl,_,rfl,ho,_,rfl,gg.k (k:=Sum.inl b) e6,?_⟩;rw[sY];cases eb:lk ps b with
  |none =>
   refine⟨false,rfl,c9 ?_⟩;exact⟨_,_,rfl,s6⟩
  |some m =>
   obtain⟨s,ws⟩:=(mps b).mp (kU λz=>by rw[gN.mpr z]at eb;cases eb);obtain⟨n,en⟩:=M6 ((mps y).mpr ⟨_,.cons (sy _ _ _ Lg) ws⟩);refine⟨true,rfl,ig ?_⟩;refine⟨_,rfl,_,rfl,ho,.int m,rfl,gv e6 eb,_,rfl,_,rfl,ho,.int n,rfl,gv e6 en,_,_,rfl,rfl,?_⟩;refine⟨_,rfl,_,rfl,_,rfl,ó,λkt XE=>?_⟩;have s7:=(aI.refl H6).new (o:=.tup [.int b,.int y]) XE;have tk:dF K (ü H6 kt (.tup [.int b,.int y])) kt [b,y]:=⟨.inl ⟨_,_,rfl,bO.of aB⟩⟩;generalize ü H6 kt (.tup [.int b,.int y])=H7 at s7 tk ⊢;have vt:ir xs [b,y]=some (.int l):=by rw[xm hL.m,(fF zQ.1).mpr Lg];rfl
   refine⟨td,kt,xs,[b,y],.int l,rfl,rfl,⟨.inr ⟨u,(s6.trans s7) _ _ d5,ou⟩,λp hp=>(k5 p hp).same (s6.trans s7)⟩,tk,vt,_,_,rfl,rfl,_,rfl,?_⟩;have c:=hh.e b y l Lg m n eb en;refine eT (by lia) ?_;exact⟨_,_,rfl,s6.trans s7⟩
 rintro Z H6 ⟨v4,v5,rfl,s6⟩;refine⟨td,xs,u,ou,s6 _ _ d5,?_⟩;refine q1 _ λb o e=>?_;by_cases nb:b=td
 .subst nb;rw[aB];rw[hL.d]at e;exact e
 rw[aN nb];exact s6 b o (x5 b o nb e)
def yX(L:List (Tk×Int))(one Ā:Int)(ws:List Int)(ps:Hv):Prop:=Q7 ws one Ā/\yW L Ā ps/\∃rN,qO L ws=some rN/\(one,rN)∈ps
inductive wA(K:Ni)(vs:List V)(H:Hp)(Q:VK)(_:XK):Prop
 |mk (td wa hl:JY) (one Ā:Int) (L:List (Tk×Int)) (xs:TX) (ws:List Int) (ps:Hv) (_:vs=[.ref td,.int one,.int Ā,.ref wa,.ref hl]) (_:vp K H td L xs) (_:BY L) (_:(∀a b l,([a,b],l)∈L->([b,a],l)∈L)) (_:L.length<=200) (_:(∀hv,Ht L Ā hv->hv.length<=20)) (_:bO K H wa (ws.map V.int)) (_:ws.length<=1000) (_:sX K H hl ps) (_:ps.length<=100) (_:yX L one Ā ws ps) (_:∀H',aI H H'->Q (.bl true) H')
def wC:aM ["lengths","one","other","way","heights","total"] ["lengths","one","other","way","heights"] (aH pU):=ac
def Fl(F:aY K mg "way_holds" pU)(T:Txt K mg t)(kK:ã P w K mg à 1 "goes_from_to" ["way","one","other"] (oT K))(kM:ã P w K mg à 2 "heights_hold" ["lengths","goal","heights"] (oU K))(oC:ã P w K mg à 1 "way_length" ["lengths","way"] (se K)):ã P w K mg à 3 "way_holds" ["lengths","one","other","way","heights"] (wA K):=by
 refine F.eY wC λf bM A á s H vs Q E hr h=>?_;obtain⟨td,wa,hl,one,Ā,L,xs,ws,ps,rfl,hL,zQ,sy,ll,wM,hw,wl,hp,pl,⟨c1,hh,rN,el,hm⟩,q⟩:=h;refine⟨_,aC (ax (PW.pt (kX (eE (fX (aO kK hr (aA (pv 3) (aA (pv 1) (aA (pv 2) aD)))))) (jx (eE (fX (aO kM hr (aA (pv 0) (aA (pv 2) (aA (pv 4) aD)))))))))
   (aE (aQ jw))
   (aW))
  (aC (aV 5 wC (aO oC hr (aA (pv 0) (aA (pv 3) aD))))
  (aE (aQ (oy (dY y9 (pv 5) eC (iF _)) (tf (dY (WV K (dU hr)) (c5 (aA (pv 1) (aA (pv 5) aD))) (pv 4) (by rfl))))))),?_⟩
 have hsz:=bZ;refine⟨_,rfl,_,rfl,_,rfl,wa,ws,one,Ā,rfl,hw,wl,c1,λH1 s1=>⟨true,rfl,?_⟩⟩;refine(show if(!true)=true then _ else _ from c9 ?_);refine⟨_,rfl,_,rfl,_,rfl,td,hl,Ā,L,xs,ps,rfl,hL.same s1,zQ,sy,ll,wM,hp.same s1,pl,hh,λH2 s2=>⟨true,rfl,?_⟩⟩;refine(show if(!true)=true then _ else _ from c9 ?_);have S2:=s1.trans s2;have w1:1<=ws.length:=by have:=(bq.mp c1.h).1;lia
 refine⟨_,rfl,_,rfl,td,wa,L,xs,ws,rN,rfl,hL.same S2,S2.tup hw,w1,wl,el,λH3 s3=>?_⟩;have S3:=S2.trans s3;refine⟨_,rfl,rfl,_,rfl,ig ?_⟩;refine⟨_,rfl,_,rfl,ó,λtp OQ=>?_⟩;have s4:=(aI.refl H3).new (o:=.tup [.int one,.int rN]) OQ;obtain⟨zs,z1,z2,z3⟩:=hp.ex;have S4:=S3.trans s4;have e4:bO K (ü H3 tp (.tup [.int one,.int rN])) tp ([some one,some rN].map ð):=bO.of aB;generalize ü H3 tp (.tup [.int one,.int rN])=H4 at s4 S4 e4 ⊢;have tb:zs.map (λz=>V.ref z.1)=m8 zs.length λj=>((zs[j]?).map (·.1)).getD 0:=by
  refine oo (by simp[m8,cp]) λi i1 i2=>?_;have:i<zs.length:=by simpa using i1
  simp[m8,cp,this]
 refine⟨_,rfl,tp,hl,[some one,some rN],zs.length,λj=>((zs[j]?).map (·.1)).getD 0,λj=>(zs[j]?.map λz=>[some z.2.1,some z.2.2]).getD [],rfl,rfl,e4,by rw[<-tb];exact aX.of (S4 _ _ z1),λj hj=>?_,?_⟩
 .have:zs[j]?=some zs[j]:=by simp[hj]
  simp only[this,Option.map_some,Option.getD_some];exact S4.tup (z2 _ (jJ hj))
 rw[aK (by decide)];rw[<-z3]at hm;obtain⟨z,hz,ez⟩:=ao.mp hm;obtain⟨j,hj,rfl⟩:=eU hz;rw[rY.mpr ⟨j,jL.mpr hj,by simp[hj,ez]⟩];exact q H4 S4
structure Z0(ns:List Int):Prop where
 r:ns.Pairwise (·<·)
 h:∀n∈ns,0<=n/\n<32
inductive i3(K:Ni)(vs:List V)(H:Hp)(Q:VK)(_:XK):Prop
 |mk (a:JY) (ns:List Int) (_:vs=[.ref a]) (_:bO K H a (ns.map V.int)) (_:ns.length<64) (_:Z0 ns) (_:∀H',aI H H'->Q (.bl true) H')
def i4:aM ["numbers"] ["numbers"] (aH fg):=ac
def qP(F:aY K mg "are_rising_houses" fg)(T:Txt K mg t)(de:ã P w K mg à 1 "is_house" ["number"] ko):ã P w K mg à 2 "are_rising_houses" ["numbers"] (i3 K):=by
 refine F.eY i4 λf bM A á s H vs Q E hr h=>?_;obtain⟨a,ns,rfl,ha,nl,rh,q⟩:=h;refine⟨_,aE (aQ (oy (dY (Wa K (dU hr)) (av (dB K) (by rfl) T.iI i7 (aA (pv 0) aD)) (bW (Ez P w (dU hr)) (by rfl) T.hJ me (aA (av (qp P w K) (by rfl) T.Mp boot_set (aA (pv 0) aD)) aD)) (iF _)) (tf (bW (xE K rfl) (by rfl) T.QT boot_all (aA (j7 (Nc:=["number"]) (ix:=[none]) i4 (vG K (pv 0)) (λC fp s H=>⟨bN,(aO de hr (aA (pv 0) aD))⟩)) aD))))),?_⟩;have hsz:=bZ;have sb:2000<scanBound:=by decide
 refine⟨_,rfl,a,_,rfl,.inr ha,λl1 Hq=>?_⟩;obtain⟨H1,ja,s1,e1⟩:=nL (aI.refl H) (o:=.lst (ns.map V.int)) Hq;rw[ja];have hk:bO K H1 a ((ns.map (Sum.inl:Int->ä)).map kV):=by rw[<-BV];exact s1.tup ha
 refine⟨_,rfl,a,ns.map Sum.inl,rfl,.inr hk,by rw[aJ];lia,λp hp=>?_⟩;obtain⟨H2,ja,s2,e2⟩:=nL (aI.refl H1) (o:=yH P w p (ns.map (Sum.inl:Int->ä)).reverse) hp;rw[ja];refine⟨p,ns,rfl,e2,by have:=Ej (ns.map Sum.inl).reverse;rw[rT,aJ]at this;lia,λys r ry my wN=>?_⟩;obtain⟨H3,ja,s3,e3⟩:=nL (aI.refl H2) (o:=.lst (ys.map V.int)) wN;rw[ja];have S3:=s1.trans (s2.trans s3);obtain rfl:ns=ys:=DN rh.r ry λx=>(my x).symm;have E1:ar K H3 8 (.ref l1) (.list (ns.map .int)):=vz (aX.of ((s2.trans s3) _ _ e1));refine⟨_,_,E1,vz (aX.of e3),_,rfl,?_⟩;rw[aK (show ¬(false=true) by decide),E1.eqv];refine ig ?_;refine⟨_,rfl,a,rfl,⟨_,S3.tup ha⟩,λD hD=>?_⟩;refine WO (K:=K) (a:=a) (xs:=ns.map V.int) (λi Z H'=>∃v:Option V,Z=[v]/\aI H3 H'/\H' D=some (.lst ((List.replicate i true).map V.bl))) ⟨none,rfl,(aI.refl _).new hD,aB⟩ (λi Z H' _ ⟨_,_,s,_⟩=>(S3.trans s).tup ha) ?_ ?_
 .rintro i y Z H4 N hN hi ⟨v,rfl,s4,e4⟩;obtain⟨n,en,rfl⟩:=dH hi;have il:i<ns.length:=(bq.mp en).1;refine cA ?_;refine⟨_,rfl,n,rfl,_,e4,by rw[aJ,Jl];lia,hN _ _ ⟨_,rfl,s4.put hD,?_⟩⟩;rw[aB,bw (rh.h n (bL en)),List.replicate_succ',bD];rfl
 rintro Z H4 ⟨v,rfl,s4,e4⟩;refine⟨D,_,rfl,aX.of e4,?_⟩;have z:∀n,(List.replicate n true).all id=true:=λn=>og.mpr λb hb=>List.eq_of_mem_replicate hb;rw[z];exact q H4 (S3.trans s4)
structure BZ(L:List (Tk×Int))(one Ā:Int)(ns:List Int):Prop where
 r:Z0 ns
 o:one∈ns
 t:Ā∉ns
 e:∀a b l,([a,b],l)∈L->a∈ns->b∈ns
inductive si(K:Ni)(vs:List V)(H:Hp)(Q:VK)(_:XK):Prop
 |mk (td sd:JY) (one Ā:Int) (L:List (Tk×Int)) (xs:TX) (ns:List Int) (_:vs=[.ref td,.int one,.int Ā,.ref sd]) (_:vp K H td L xs) (_:BY L) (_:L.length<=1000) (_:bO K H sd (ns.map V.int)) (_:ns.length<64) (_:BZ L one Ā ns) (_:∀H',aI H H'->Q (.bl true) H')
def CP:aM ["lengths","one","other","side"] ["lengths","one","other","side"] (aH jY):=ac
def CQ(F:aY K mg "side_holds" jY)(T:Txt K mg t)(fk:ã P w K mg à 2 "are_rising_houses" ["numbers"] (i3 K)):ã P w K mg à 3 "side_holds" ["lengths","one","other","side"] (si K):=by
 refine F.eY CP λf bM A á s H vs Q E hr h=>?_;obtain⟨td,sd,one,Ā,L,xs,ns,rfl,hL,zQ,ll,hs,nl,sh,q⟩:=h;refine⟨_,aC (ax (PW.pt (kX (eE (fX (aO fk hr (aA (pv 3) aD)))) (kX (jR (lE K) (pv 1) (pv 3) (by rfl)) (jx (jR (uF K) (pv 2) (pv 3) (by rfl))))))
   (aE (aQ jw))
   (aW))
  (aE (aQ (Vj (bW (Nb K rfl) (by rfl) T.Zi boot_any (aA (C8 (AW rfl (Nc:=["begin","end","side"]) (ix:=[none,none,some 3]) (iG (aH jY) ["lengths","one","other","side"] rfl rfl (by decide +kernel)) (jh (pv 0)) (λC fp s H=>⟨(iS K (i:=0) (j:=1) rfl (show(["begin","end","side"]:List Str).Nodup by decide +kernel) rfl rfl (Or.inl rfl) (Or.inl rfl)),bN,(oy (dY (uF K) (pv 0) (pv 2) (by rfl)) (tf (dY (lE K) (pv 1) (pv 2) (by rfl))))⟩))) aD))))),?_⟩
 have hsz:=bZ;refine⟨_,rfl,sd,ns,rfl,hs,nl,sh.r,λH1 s1=>⟨true,rfl,?_⟩⟩;refine(show if(!true)=true then _ else _ from c9 ?_);have UL:=s1.tup hs;refine⟨_,rfl,_,rfl,sd,_,rfl,.inr UL,rfl,jm _,_,rfl,?_⟩;refine(show if(!EW (.int one) (ns.map V.int))=true then _ else _ from ?_);rw[qK];refine ij sh.o ?_;refine⟨_,rfl,_,rfl,sd,_,rfl,.inr UL,rfl,jm _,_,rfl,?_⟩;refine(show if(EW (.int Ā) (ns.map V.int))=true then _ else _ from ?_);rw[qK];refine eT sh.t ?_;have hL1:=hL.same s1;refine⟨_,rfl,td,xs,rfl,hL1.d,λu ou D hD=>?_⟩;have kz:=gM (o:=u) (vm.UJ hL1.d);have d2:=@aB H1 td u;have k2:∀p∈xs,dF K (ü H1 td u) p.2.1 p.1:=λp hp=>(hL1.k p hp).kept kz;have By:bO K (ü H1 td u) sd (ns.map V.int):=kz.tup UL;have th:∀{H5:Hp},aI (ü H1 td u) H5->aI H1 (ü H5 td (jP td xs)):=λs=>by
  intro b o e;by_cases c:b=td
  .subst c;rw[aB,<-hL1.d,e]
  rw[aN c];exact s b o (by rw[aN c];exact e)
 generalize ü H1 td u=H2 at d2 k2 By th hD ⊢;refine C9 (d:=td) (u:=u) (xs:=xs) (λi Z H'=>∃v0 v1:Option V,Z=[v0,v1,some (.ref sd)]/\aI H2 H'/\H' D=some (.lst ((List.replicate i false).map V.bl))) ⟨none,none,rfl,(aI.refl _).new hD,aB⟩ (λi Z H' _ h_=>by obtain⟨_,_,_,s,_⟩:=h_;exact s _ _ d2) ?_ ?_
 .rintro i p Z H4 N hN hi ⟨v0,v1,rfl,s4,e4⟩;obtain⟨b,y,l,ee,Lg,_,g1⟩:=M5 zQ hL.m hi ((k2 p (bL hi)).same s4);have il:i<L.length:=(bq.mp ee).1;have hs4:=s4.tup By;have add:∀{v:Bool},v=false->∃zs,H4 D=some (.lst zs)/\zs.length<sizeLine/\N [some (.int b),some (.int y),some (.ref sd)] (ü H4 D (.lst (zs++[V.bl v]))):=λ{v} hv=>by refine⟨_,e4,by rw[aJ,Jl];lia,hN _ _ ⟨_,_,rfl,s4.put hD,?_⟩⟩;rw[aB,List.replicate_succ',bD,hv];rfl
  refine⟨p.2.1,_,rfl,g1,rfl,_,_,rfl,_,_,rfl,rfl,?_⟩;show if true=true then Um (R0 (Xd K false) (J5 0) (J5 2)) (R0 (Xd K true) (J5 1) (J5 2)) (([v0,v1,some (V.ref sd)].set 0 (some (V.int b))).set 1 (some (V.int y))) H4 (λv H5=>∃ys,H5 D=some (HO.lst ys)/\ys.length<sizeLine/\N (([v0,v1,some (V.ref sd)].set 0 (some (V.int b))).set 1 (some (V.int y))) (ü H5 D (HO.lst (ys++[v]))))else N (([v0,v1,some (V.ref sd)].set 0 (some (V.int b))).set 1 (some (V.int y))) H4;rw[aL rfl];refine⟨_,rfl,_,rfl,sd,_,rfl,.inr hs4,rfl,jm _,_,rfl,?_⟩;refine(show if(EW (.int b) (ns.map V.int))=true then _ else _ from ?_);rw[qK];by_cases cb:b∈ns
  .refine fe cb ?_;refine⟨_,rfl,_,rfl,sd,_,rfl,.inr hs4,rfl,jm _,?_⟩;refine add ?_;rw[aL rfl,qK];simp[sh.e b y l Lg cb]
  exact eT cb (add (by simp[cb]))
 rintro Z H4 ⟨v0,v1,rfl,s4,e4⟩;refine⟨td,xs,u,ou,s4 _ _ d2,?_⟩;have S5:=th s4;have nDt:D≠td:=(aP d2 hD).symm;have e5:(ü H4 td (jP td xs)) D=some (.lst ((List.replicate xs.length false).map V.bl)):=by rw[aN nDt];exact e4
 generalize ü H4 td (jP td xs)=H5 at S5 e5 ⊢;refine⟨D,_,rfl,aX.of e5,_,rfl,?_⟩;have z:∀n,(List.replicate n false).any id=false:=λn=>List.any_eq_false.mpr λb hb=>by rw[List.eq_of_mem_replicate hb];decide
 rw[z];exact q H5 (s1.trans S5)
inductive sj(K:Ni)(C:JY)(vs:List V)(H:Hp)(Q:VK)(_:XK):Prop
 |mk (x d an:JY) (one Ā:Int) (ms:Ms) (_:vs=[.ref x,.int one,.int Ā,.ref an]) (_:i0 K C H x d ms) (_:ms.length<=12) (_:vn ms) (_:Lh ms) (_:((∃(wa hl:JY)(ws:List Int)(ps:Hv),bO K H an [.str "way",.ref wa,.ref hl]/\bO K H wa (ws.map V.int)/\ws.length<=1000/\sX K H hl ps/\ps.length<=100/\∀ts:List T3,(∀t,t∈ts↔fE ms t)->Rw ts->yX (iM ts) one Ā ws ps)\/(∃(sd:JY)(ns:List Int),bO K H an [.str "side",.ref sd]/\bO K H sd (ns.map V.int)/\ns.length<64/\∀ts:List T3,(∀t,t∈ts↔fE ms t)->BZ (iM ts) one Ā ns))) (_:∀H',aI H H'->Q (.bl true) H')
def sm:aM ["chart","one","other","answer","lengths"] ["chart","one","other","answer"] (aH nZ):=ac
def CS(F:aY K mg "way_judged" nZ)(T:Txt K mg t)(fQ:ã P w K mg à 3 "lengths_of" ["chart"] (lV K t.Map))(qQ:ã P w K mg à 3 "way_holds" ["lengths","one","other","way","heights"] (wA K))(oE:ã P w K mg à 3 "side_holds" ["lengths","one","other","side"] (si K)):ã P w K mg à 4 "way_judged" ["chart","one","other","answer"] (sj K t.Map):=by
 refine F.eY sm λf bM A á s H vs Q E hr h=>?_;obtain⟨x,d,an,one,Ā,ms,rfl,hM,ml,UP,hq,h,q⟩:=h;refine⟨_,aC (aV 4 sm (aO fQ hr (aA (pv 0) aD)))
  (aC (ax (bI jN (ah (ay K) (pv 3) aF) cE)
   (aE (aQ (aO qQ hr (aA (pv 4) (aA (pv 1) (aA (pv 2) (aA (ah (ay K) (pv 3) aF) (aA (ah (ay K) (pv 3) aF) aD))))))))
   (aW))
  (aE (aQ (oy (dY jN (ah (ay K) (pv 3) aF) cE (iF _)) (tf (aO oE hr (aA (pv 4) (aA (pv 1) (aA (pv 2) (aA (ah (ay K) (pv 3) aF) aD)))))))))),?_⟩
 refine⟨_,rfl,x,d,ms,rfl,hM,ml,UP,λtd H1 ts xs s1 ntd hL hm Io tl=>?_⟩;have el:(iM ts).length<=200:=by rw[Fj];lia
 rcases h with⟨wa,hl,ws,ps,ha,hw,wl,hp,pl,wh⟩|⟨sd,ns,ha,hs,nl,sh⟩
 .have a1:=s1.tup ha;refine⟨_,rfl,an,_,_,.str "way",rfl,rfl,a1,rfl,rfl,_,rfl,?_⟩;refine fe (p:=V.str "way"=V.str "way") rfl ?_;refine⟨_,rfl,_,rfl,_,rfl,_,rfl,an,_,_,.ref wa,rfl,rfl,a1,rfl,_,rfl,an,_,_,.ref hl,rfl,rfl,a1,rfl,?_⟩;refine⟨td,wa,hl,one,Ā,iM ts,xs,ws,ps,rfl,hL,(uf hq hm Io).1,(uf hq hm Io).2,el,λhv ht=>by have:=ht.wM hm;lia,s1.tup hw,wl,hp.same s1,pl,wh ts hm Io,λH2 s2=>q H2 (s1.trans s2)⟩
 have a1:=s1.tup ha;refine⟨_,rfl,an,_,_,.str "side",rfl,rfl,a1,rfl,rfl,_,rfl,?_⟩;refine eT (p:=V.str "side"=V.str "way") (by decide +kernel) ?_;refine⟨_,rfl,an,_,_,.str "side",rfl,rfl,a1,rfl,rfl,_,rfl,?_⟩;refine fe (p:=V.str "side"=V.str "side") rfl ?_;refine⟨_,rfl,_,rfl,_,rfl,_,rfl,an,_,_,.ref sd,rfl,rfl,a1,rfl,?_⟩;exact⟨td,sd,one,Ā,iM ts,xs,ns,rfl,hL,(uf hq hm Io).1,by lia,s1.tup hs,nl,sh ts hm,λH2 s2=>q H2 (s1.trans s2)⟩
def LET:Str:=" !\"#$ &'()*+,-./0123456789:;<=>?@ABCDEFGHIJKLMNOPQRSTUVWXYZ[\\]^_`abcdefghijklmnopqrstuvwxyz{|}~\n"
def code(n:Nat):Nat:=LET.cps.getD n 0
def jW(c:Nat):Int:=PySem.Txt.find LET ⟨#[c]⟩
def Fm:LET.length=96:=by decide +kernel
def code_at:∀n<96,LET.cps[n]?=some (code n):=by decide +kernel
def qR:Sp:=λvs H Q _=>∃c:Nat,vs=[.str ⟨#[c]⟩]/\0<=jW c/\Q (.int (jW c)) H
def qS:aM ["letter","sign"] ["letter"] (aH lJ):=ac
def Ba(F:aY K mg "letter_sign" lJ)(T:Txt K mg t):ã P w K mg à 1 "letter_sign" ["letter"] qR:=by
 refine F.eY qS λf bM A á s H vs Q E hr h=>?_;obtain⟨c,rfl,hc,q⟩:=h;refine⟨_,aC (aV 1 qS (ff K DX PySem.F.slot_str_find PySem.F.type_str_find Sj (Eb T.cLETTERS) (aA (pv 0) aD)))
  (aC (ax (bI kZ (pv 1) aF)
   (aE (dP))
   (aW))
  (aE (aQ (pv 1)))),?_⟩
 refine⟨rfl,_,rfl,_,_,rfl,rfl,?_⟩;refine⟨_,rfl,_,_,rfl,rfl,_,rfl,eT (show ¬jW c<0 by lia) ?_⟩;exact⟨_,rfl,q⟩
def qT:Sp:=λvs H Q _=>∃n:Int,vs=[.int n]/\(0<=n/\n<96/\n≠5)/\Q (.str ⟨#[code n.toNat]⟩) H
def Bb:aM ["sign"] ["sign"] (aH lK):=ac
def Bc(F:aY K mg "sign_letter" lK)(T:Txt K mg t):ã P w K mg à 1 "sign_letter" ["sign"] qT:=by
 refine F.eY Bb λf bM A á s H vs Q E hr h=>?_;obtain⟨n,rfl,⟨z0,z1,z⟩,q⟩:=h;refine⟨_,aC (ax (PW.pt (kX (bI jN (pv 0) (aR T.Tf)) (jx (eE (o5 l9 kZ aF (pv 0) (bW u9 (by rfl) T.cS boot_len (aA (Eb T.cLETTERS) aD)))))))
   (aE (dP))
   (aW))
  (aE (aQ (ah V4 (Eb T.cLETTERS) (pv 0)))),?_⟩
 have hl:LET.length<=sizeLine:=by rw[Fm];decide
 refine⟨_,rfl,rfl,_,rfl,eT (λe=>z (V.int.inj e)) ?_⟩;refine⟨_,rfl,_,_,rfl,rfl,_,rfl,fe z0 ?_⟩;refine⟨LET,rfl,hl,_,_,rfl,rfl,_,rfl,?_⟩;refine ij (p:=n<((LET.length:Nat):Int)) (by rw[Fm];lia) ?_;refine⟨_,rfl,LET,n,code n.toNat,rfl,rfl,hl,?_,q⟩;unfold rH KQ;rw[aL z0,aL (by show n<((LET.cps.toList.length:Nat):Int);rw[show LET.cps.toList.length=LET.length by simp[Str.length],Fm];exact z1)];show LET.cps.toList[n.toNat]?=some (code n.toNat);rw[DZ];exact code_at n.toNat (by lia)
def sv:Sp:=λvs H Q _=>∃cs:List Nat,vs=[.str (ai cs)]/\(∀c∈cs,c<128/\0<=jW c)/\cs.length<=1000/\∀p H',H p=none->aI H H'->H' p=some (.lst ((cs.map jW).map V.int))->Q (.ref p) H'
def sx:aM ["text"] ["text"] (aH nO):=ac
def CT(F:aY K mg "text_signs" nO)(T:Txt K mg t)(lY:ã P w K mg à 1 "letter_sign" ["letter"] qR):ã P w K mg à 2 "text_signs" ["text"] sv:=by
 refine F.eY sx λf bM A á s H vs Q E hr h=>?_;obtain⟨cs,rfl,hc,hn,q⟩:=h;refine⟨_,aE (aQ (j7 (Nc:=["letter"]) (ix:=[none]) sx (Pp (pv 0)) (λC fp s H=>⟨bN,(aO lY hr (aA (pv 0) aD))⟩))),?_⟩;have hsz:=bZ;refine⟨_,rfl,cs,rfl,λc h=>(hc c h).1,λD hD=>?_⟩;refine Pq (cs:=cs) (λi Z H'=>∃v:Option V,Z=[v]/\aI H H'/\H' D=some (.lst (((cs.take i).map jW).map V.int))) ⟨none,rfl,(aI.refl _).new hD,aB⟩ ?_ ?_
 .rintro i c Z H' N hN hi ⟨v,rfl,s1,h1⟩;refine cA ?_;refine⟨_,rfl,c,rfl,(hc c (bL hi)).2,?_⟩;refine⟨_,h1,by rw[aJ,aJ,cc];lia,?_⟩;refine hN _ _ ⟨_,rfl,s1.put hD,?_⟩;rw[aB,þ hi,bD,bD];rfl
 rintro Z H' ⟨v,rfl,s1,h1⟩;rw[eV]at h1;exact q D H' hD s1 h1
inductive tD(K:Ni)(vs:List V)(H:Hp)(Q:VK)(_:XK):Prop
 |mk (l:JY) (ns:List Int) (_:vs=[.ref l]) (_:aX K H l (ns.map V.int)) (_:ns.length<=1000) (_:(∀n∈ns,0<=n/\n<96/\n≠5)) (_:∀H',aI H H'->Q (.str (ai (ns.map λn=>code n.toNat))) H')
def Q8:∀cs:List Nat,((cs.map λc=>(⟨#[c]⟩:Str)).map (·.length)).sum=cs.length:=by
 intro cs
 induction cs with
 |nil=>rfl
 |cons c r ih =>
  rw[bz,bz,EA,ih,cQ];show 1+r.length=r.length+1;lia
def tE:aM ["signs"] ["signs"] (aH nP):=ac
def CU(F:aY K mg "signs_text" nP)(T:Txt K mg t)(lZ:ã P w K mg à 1 "sign_letter" ["sign"] qT):ã P w K mg à 2 "signs_text" ["signs"] (tD K):=by
 refine F.eY tE λf bM A á s H vs Q E hr h=>?_;obtain⟨l,ns,rfl,hl,hn,ok,q⟩:=h;refine⟨_,aE (aQ (ff K DX PySem.F.slot_str_join PySem.F.type_str_join (Sk K) cE (aA (j7 (Nc:=["sign"]) (ix:=[none]) tE (bH K (pv 0)) (λC fp s H=>⟨bN,(aO lZ hr (aA (pv 0) aD))⟩)) aD))),?_⟩;have hsz:=bZ;refine⟨rfl,_,rfl,l,rfl,⟨_,hl⟩,λD hD=>?_⟩;refine iR (K:=K) (a:=l) (xs:=ns.map V.int) (λi Z H'=>∃v:Option V,Z=[v]/\aI H H'/\H' D=some (.lst (((ns.take i).map λn=>(⟨#[code n.toNat]⟩:Str)).map V.str))) ⟨none,rfl,(aI.refl _).new hD,aB⟩ (λi Z H' _ ⟨_,_,s1,_⟩=>s1.seq hl) ?_ ?_
 .rintro i x Z H' N hN hi ⟨v,rfl,s1,h1⟩;obtain⟨n,oW,rfl⟩:=dH hi;refine cA ?_;refine⟨_,rfl,n,rfl,ok n (bL oW),?_⟩;refine⟨_,h1,by rw[aJ,aJ,cc];lia,?_⟩;refine hN _ _ ⟨_,rfl,s1.put hD,?_⟩;rw[aB,þ oW,bD,bD];rfl
 rintro Z H' ⟨v,rfl,s1,h1⟩;rw[aJ,eV]at h1;have em:(ns.map λn=>(⟨#[code n.toNat]⟩:Str))=((ns.map λn=>code n.toNat).map λc=>(⟨#[c]⟩:Str)):=by rw[bB];rfl
 rw[em]at h1;refine⟨_,D,(ns.map λn=>code n.toNat).map λc=>(⟨#[c]⟩:Str),rfl,rfl,aX.of h1,?_,?_⟩
 .rw[Q8,aJ,aJ];show ns.length+ns.length*0<=16777216;lia
 have ej:=Kf (ns.map λn=>code n.toNat);show Q (.str (PySem.Txt.join Str.empty _)) H';rw[ej];exact q H' s1
def d2(n:Int):List Int:=[n/97%97,n%97]
def d3(n:Int):List Int:=[n/97/97%97,n/97%97,n%97]
def VO{n:Int}(h0:0<=n)(h:n<=9000):My.õ (d2 n)=n:=by show(0*97+n/97%97)*97+n%97=n;lia
def Z1{n:Int}(h0:0<=n)(h:n<=900000):My.õ (d3 n)=n:=by show((0*97+n/97/97%97)*97+n/97%97)*97+n%97=n;lia
def VP{n:Int}(h0:0<=n)(h:n<=9000):My.û 2 n=0:=by show n/97/97=0;lia
def Z2{n:Int}(h0:0<=n)(h:n<=900000):My.û 3 n=0:=by show n/97/97/97=0;lia
def wS(w:Wr):List Int:=[w.o,w.q]++(d2 w.a++d2 w.b)
def Bd(c:List Int):Wr:=⟨c.getD 0 0,c.getD 1 0,My.õ ((c.drop 2).take 2),My.õ ((c.drop 4).take 2)⟩
def Q9{w:Wr}(h:BS w):Bd (wS w)=w:=by obtain⟨o,q,a,b⟩:=w;obtain⟨_,_,ha,hb⟩:=h;show Wr.mk o q (My.õ (d2 a)) (My.õ (d2 b))=_;rw[VO (by have:=ha.1;lia) ha.2,VO (by have:=hb.1;lia) hb.2]
def Li(w:Wr):(wS w).length=6:=rfl
def RA(n:Int):Prop:=0<=n/\n<97
def Z3{w:Wr}(h:BS w):∀n∈wS w,RA n:=by obtain⟨o,q,a,b⟩:=w;obtain⟨ho,hq,_,_⟩:=h;intro n hn;have ho:0<=o/\o<32:=ho;have hq:1<=q/\q<=10:=hq;simp only[wS,d2,Du,Dz,au,bE,dJ]at hn;unfold RA;rcases hn with rfl|rfl|rfl|rfl|rfl|rfl<;>lia
def jn:List (List Nat)->List Nat
 |[]=>[]
 |[n]=>n
 |n::m::r=>n++32::jn (m::r)
def qU(n m:List Nat)(r:List (List Nat)):jn (n::m::r)=n++32::jn (m::r):=by rw[jn]
def qV(n:List Nat):jn [n]=n:=by rw[jn]
def RB:∀{xs ys:List (List Nat)},xs≠[]->ys≠[]->(∀x∈xs,32∉x)->(∀y∈ys,32∉y)->jn xs=jn ys->xs=ys
 |[],_,h,_,_,_,_=>absurd rfl h
 |_,[],_,h,_,_,_=>absurd rfl h
 |[x],[y],_,_,_,_,e=>by rw[qV,qV]at e;rw[e]
 |[x],y::z::r,_,_,hx,_,e=>by rw[qV,qU]at e;exact absurd (show 32∈x by rw[e];simp) (hx x bp)
 |x::z::r,[y],_,_,_,hy,e=>by rw[qV,qU]at e;exact absurd (show 32∈y by rw[<-e];simp) (hy y bp)
 |x::z::r,y::w::s,_,_,hx,hy,e=>by
  rw[qU,qU]at e;have nx:=hx x bp;have ny:=hy y bp;have cut:∀{a b c d:List Nat},32∉a->32∉c->a++32::b=c++32::d->a=c/\b=d:=by
   intro a
   induction a with
   |nil =>
    intro b c d _ hc e;cases c with
    |nil=>exact⟨rfl,(i5 e).2⟩
    |cons u c=>exact absurd (show 32∈u::c by rw[<-(i5 e).1];exact bp) hc
   |cons u a ih =>
    intro b c d ha hc e;cases c with
    |nil=>exact absurd (show 32∈u::a by rw[(i5 e).1];exact bp) ha
    |cons v c =>
     obtain⟨e1,e2⟩:=i5 e;obtain⟨rfl,rfl⟩:=ih (λz=>ha (bU _ z)) (λz=>hc (bU _ z)) e2;exact⟨by rw[e1],rfl⟩
  obtain⟨rfl,e2⟩:=cut nx ny e;rw[RB (by simp) (by simp) (λx h=>hx x (bU _ h)) (λy h=>hy y (bU _ h)) e2]
def XI{xs:List (List Nat)}(h:∀x∈xs,x≠[])(e:jn xs=[]):xs=[]:=by
 match xs with
 |[]=>rfl
 |[x]=>rw[qV]at e;exact absurd e (h x bp)
 |x::y::r=>rw[qU]at e;simp at e
def RC:∀{xs:List (List Nat)}{c:Nat},c∈jn xs->c=32\/∃x∈xs,c∈x
 |[],_,h=>by cases h
 |[x],_,h=>by rw[qV]at h;exact .inr ⟨x,bp,h⟩
 |x::y::r,c,h=>by
  rw[qU]at h;rcases cH.mp h with z|z
  .exact .inr ⟨x,bp,z⟩
  rcases au.mp z with rfl|z
  .exact .inl rfl
  rcases RC z with e|⟨u,h1,h2⟩
  .exact .inl e
  exact .inr ⟨u,bU _ h1,h2⟩
def Fn:∀(xs:List (List Nat)),(∀x∈xs,x.length<=4)->(jn xs).length<=5*xs.length
 |[],_=>ae _
 |[x],h=>by rw[qV];have:=h x bp;show x.length<=5;lia
 |x::y::r,h=>by have:=h x bp;have ih:=Fn (y::r) λz hz=>h z (bU _ hz);rw[qU,bV,cQ];rw[cQ]at ih ⊢;rw[cQ];lia
def Fo:∀c<128,(97<=c/\c<=122\/c=32)->0<=jW c/\jW c<96/\jW c≠5/\code (jW c).toNat=c:=by decide +kernel
def BL:(" ":Str)=⟨#[32]⟩:=by decide +kernel
def Fp:∀ns:List (List Nat),Str.join ⟨#[32]⟩ (ns.map ai)=ai (jn ns)
 |[]=>rfl
 |[n]=>by rw[qV];rfl
 |n::m::r=>by
  have ih:=Fp (m::r);rw[qU];show ai n++(⟨#[32]⟩:Str)++Str.join ⟨#[32]⟩ ((m::r).map ai)=_;rw[ih];show(⟨n.toArray++#[32]++(jn (m::r)).toArray⟩:Str)=⟨(n++32::jn (m::r)).toArray⟩
  congr 1
  apply Array.toList_inj.mp;simp
def Lj(cs:List Nat):List (List Nat):=(Txt.split (ai cs) ⟨#[32]⟩).map λp=>p.cps.toList
def M8(cs:List Nat):(Lj cs).map ai=Txt.split (ai cs) ⟨#[32]⟩:=by
 unfold Lj;rw[bB]
 conv=>rhs;rw[<-AF (Txt.split (ai cs) ⟨#[32]⟩)]
 exact iY λp _=>by show(⟨p.cps.toList.toArray⟩:Str)=p;rw[Array.toArray_toList]
def UQ(cs:List Nat):jn (Lj cs)=cs:=by
 have h:=StrLaws.join_split (ai cs) ⟨#[32]⟩;rw[<-M8,Fp]at h;have h2:(jn (Lj cs)).toArray=cs.toArray:=az Str.cps h
 simpa using az Array.toList h2
def OV(cs:List Nat):∀p∈Lj cs,32∉p:=λp hp=>by obtain⟨x,hx,rfl⟩:=ao.mp hp;exact StrLaws.split_free (ai cs) 32 x hx
def UR(cs:List Nat):Lj cs≠[]:=λe=>Pu (ai cs) ⟨#[32]⟩ (De.mp e)
def US(r:List Int):List (List Nat):=if r=[]then[]else Lj (r.map λn=>code n.toNat)
def Fq{ns:List (List Nat)}(h:∀n∈ns,LY n){c:Nat}(hc:c∈jn ns):97<=c/\c<=122\/c=32:=by
 rcases RC hc with e|⟨x,hx,hcx⟩
 .exact .inr e
 exact .inl ((h x hx).2 c hcx)
def M9{ns:List (List Nat)}(h:∀n∈ns,LY n):US ((jn ns).map jW)=ns:=by
 unfold US;have nz:∀n∈ns,n≠[]:=λn hn e=>by have:=(h n hn).1.1;rw[e]at this;exact absurd this (by decide)
 by_cases c:jn ns=[]
 .rw[aL (by rw[c];rfl),XI nz c]
 rw[aK λe=>c (De.mp e)];have e:((jn ns).map jW).map (λn=>code n.toNat)=jn ns:=by
  rw[bB]
  conv=>rhs;rw[<-AF (jn ns)]
  refine iY λc hc=>?_;have hl:=Fq h hc;exact(Fo c (by lia) hl).2.2.2
 rw[e];refine RB (UR _) (λz=>c (by rw[z];rfl)) (OV _) (λy hy z=>?_) (UQ _);have:97<=32:=((h y hy).2 32 z).1;lia
def nb(N:Nw):List Int:=[N.h]++d3 N.n++[(N.near.length:Int)]++N.near.flatMap wS++(jn N.names).map jW
def dec(bs:List Int):Nw:=⟨bs.getD 0 0,My.õ ((bs.drop 1).take 3),(List.range (bs.getD 4 0).toNat).map λi=>Bd ((bs.drop (5+6*i)).take 6),US (bs.drop (5+6*(bs.getD 4 0).toNat))⟩
def rC(ws:List Wr):(ws.flatMap wS).length=6*ws.length:=by
 induction ws with
 |nil=>rfl
 |cons w ws ih=>rw[Dk,bV,ih,Li,cQ];lia
def chunk(R:List Int):∀(ws:List Wr)(i:Nat)(hi:i<ws.length),((ws.flatMap wS++R).drop (6*i)).take 6=wS ws[i]
 |[],i,hi=>absurd hi (mY _)
 |w::ws,0,_=>by rw[Dk];rfl
 |w::ws,i+1,hi=>by have oW:i<ws.length:=rS hi;rw[Dk,jH,show 6*(i+1)=(wS w).length+6*i by rw[Li];lia,List.drop_length_add_append,chunk R ws i oW];rfl
def wD(N:Nw):nb N=N.h::N.n/97/97%97::N.n/97%97::N.n%97::(N.near.length:Int)::(N.near.flatMap wS++(jn N.names).map jW):=by unfold nb d3;simp
def NA(N:Nw)(k:Nat):(nb N).drop (5+k)=(N.near.flatMap wS++(jn N.names).map jW).drop k:=by rw[wD,AB];rfl
def NB(N:Nw):(nb N).drop (5+6*N.near.length)=(jn N.names).map jW:=by rw[NA,<-rC,List.drop_left]
def XJ{N:Nw}(ok:CJ N):dec (nb N)=N:=by
 obtain⟨hh,hn,hw,hm⟩:=ok;have e4:((nb N).getD 4 0).toNat=N.near.length:=by rw[wD];show((N.near.length:Int)).toNat=_;lia
 have e0:(nb N).getD 0 0=N.h:=by rw[wD];rfl
 have e1:((nb N).drop 1).take 3=d3 N.n:=by rw[wD];rfl
 unfold dec;rw[e4,e0,e1,Z1 hn.1 hn.2,NB,M9 hm.2.2];have ew:((List.range N.near.length).map λi=>Bd (((nb N).drop (5+6*i)).take 6))=N.near:=by refine oo (by simp) λi h1 h2=>?_;rw[Dt,List.getElem_range,NA,chunk _ _ i h2];exact Q9 (hw.1 _ (jJ h2))
 rw[ew]
def RD{N:Nw}(ok:CJ N):5+6*N.near.length<=(nb N).length/\(nb N).length<=56:=by
 obtain⟨_,_,hw,hm⟩:=ok;have h1:=Fn N.names λx hx=>(hm.2.2 x hx).1.2;have h2:=hw.2.1;have h3:=hm.1;have e:(nb N).length=5+(6*N.near.length+(jn N.names).length):=by rw[wD];simp only[cQ,bV,rC,aJ];lia
 exact⟨by lia,by lia⟩
def VQ{N:Nw}(ok:CJ N):∀n∈nb N,RA n:=by
 obtain⟨hh,hn,hw,hm⟩:=ok;intro n h;have hh:0<=N.h/\N.h<32:=hh;have wl:=hw.2.1;rw[wD]at h;simp only[au,cH]at h;unfold RA;rcases h with rfl|rfl|rfl|rfl|rfl|h|h
 .lia
 .lia
 .lia
 .lia
 .lia
 .obtain⟨w,hw',z⟩:=List.mem_flatMap.mp h;exact Z3 (hw.1 w hw') n z
 obtain⟨c,hc,rfl⟩:=ao.mp h;have hl:=Fq hm.2.2 hc;have:=Fo c (by lia) hl;lia
structure OW(N:Nw):Prop where
 ok:CJ N
 sw:sD (N.near.map rP)=N.near.map rP
 sn:sD (N.names.map xi)=N.names.map xi
def NC(O:yh ds)(ant:∀d∈ds,∀e∈ds,cZ d e=false->cZ e d=false->d=e)(O2:yh es)(hp:es.Perm ds):sD es=sD ds :=
 xh O ant ((fD O2).1.trans hp) (fD O2).2
def RE{ns:List (List Nat)}(h:ms.Perm ns):Ih ns->Ih ms:=λz=>⟨by rw[h.length_eq];exact z.1,h.nodup_iff.mpr z.2.1,λn hn=>z.2.2 n (h.mem_iff.mp hn)⟩
def XM{N:Nw}(ok:CJ N):∃M,OW M/\VG M=VG N:=by
 obtain⟨ws,h1,e1⟩:=perm_back rP (fD (Av N.near)).1 N.near rfl;obtain⟨ns,h2,e2⟩:=perm_back xi (fD (Qm N.names)).1 N.names rfl;have q1:sD (ws.map rP)=ws.map rP:=by rw[NC (Av N.near) (Zr N.near) (Av ws) (h1.map _)];exact e1
 have q2:sD (ns.map xi)=ns.map xi:=by rw[NC (Qm N.names) (Zs N.names) (Qm ns) (h2.map _)];exact e2
 refine⟨⟨N.h,N.n,ws,ns⟩,⟨⟨ok.1,ok.2.1,(yU h1).mpr ok.2.2.1,RE h2 ok.2.2.2⟩,q1,q2⟩,?_⟩;show PyData.tuple [.int N.h,.int N.n,.tuple (sD (ws.map rP)),.tuple (sD (ns.map xi))]=_;rw[q1,q2,<-e1,<-e2];rfl
def OW.VG{N:Nw}(c:OW N):VG N=.tuple [.int N.h,.int N.n,.tuple (N.near.map rP),.tuple (N.names.map xi)]:=by unfold K85.VG;rw[c.sw,c.sn]
inductive tF(K:Ni)(vs:List V)(H:Hp)(Q:VK)(_:XK):Prop
 |mk (v:V) (w:Wr) (_:vs=[v]) (_:GR K H v w) (_:BS w) (_:∀(r:JY)(H':Hp),aI H H'->H' r=some (.lst ((wS w).map V.int))->Q (.ref r) H')
def lh:aM ["wire","pair","births"] ["wire"] (aH nV):=ac
def CV(F:aY K mg "wire_signs" nV)(T:Txt K mg t)(ba:ã P w K mg à 1 "number_signs" ["number","many"] gI):ã P w K mg à 2 "wire_signs" ["wire"] (tF K):=by
 refine F.eY lh λf bM A á s H vs Q E hr h=>?_;obtain⟨v,w',rfl,hw,ok,q⟩:=h;refine⟨_,aC (aV 1 lh (ah (ay K) (pv 0) aF))
  (aC (aV 2 lh (aT (dI K) (aO ba hr (aA (ah (ay K) (pv 1) aF) (aA (aR T.vV) aD))) (aO ba hr (aA (ah (ay K) (pv 1) aF) (aA (aR T.vV) aD)))))
  (aE (aQ (aT (dI K) (bJ (aA (ah (ay K) (pv 0) aF) (aA (ah (ay K) (pv 0) aF) aD))) (pv 2))))),?_⟩
 have hsz:=bZ;obtain⟨a,p,rfl,h1,h2⟩:=hw.out;obtain⟨_,_,ha,hb⟩:=ok;refine⟨_,rfl,a,_,_,.ref p,rfl,rfl,h1,rfl,?_⟩;refine⟨_,rfl,p,_,_,.int w'.a,rfl,rfl,h2,rfl,w'.a,2,rfl,by decide,by decide,by lia,VP (by lia) ha.2,λb1 H1 n1 s1 e1=>?_⟩;refine⟨_,rfl,p,_,_,.int w'.b,rfl,rfl,s1.tup h2,rfl,w'.b,2,rfl,by decide,by decide,by lia,VP (by lia) hb.2,λb2 H2 n2 s2 e2=>?_⟩;refine⟨b1,b2,_,_,rfl,rfl,aX.of (s2 _ _ e1),aX.of e2,by show 2+2<=sizeLine;decide,λb3 hb3=>?_⟩;have s3:=(aI.refl H2).new (o:=.lst ((d2 w'.a++d2 w'.b).map V.int)) hb3;have e3:=@aB H2 b3 (.lst ((d2 w'.a++d2 w'.b).map V.int));have S3:=s1.trans (s2.trans s3);refine⟨_,rfl,a,_,_,.int w'.o,rfl,rfl,S3.tup h1,rfl,_,rfl,a,_,_,.int w'.q,rfl,rfl,S3.tup h1,rfl,ó,λb4 hb4=>?_⟩;have s4:=(aI.refl (ü H2 b3 (.lst ((d2 w'.a++d2 w'.b).map V.int)))).new (o:=.lst [.int w'.o,.int w'.q]) hb4;refine⟨_,rfl,b4,b3,_,_,rfl,rfl,aX.of aB,aX.of (s4 _ _ e3),by show 2+4<=sizeLine;decide,λb5 hb5=>?_⟩;exact q b5 _ (S3.trans (s4.trans ((aI.refl _).new hb5))) aB
inductive Be(K:Ni)(vs:List V)(H:Hp)(Q:VK)(_:XK):Prop
 |mk (l:JY) (cs:List Int) (_:vs=[.ref l]) (_:aX K H l (cs.map V.int)) (_:cs.length=6) (_:(∀n∈cs,RA n)) (_:∀(r:JY)(H':Hp),aI H H'->GR K H' (.ref r) (Bd cs)->Q (.ref r) H')
def Lk:aM ["signs"] ["signs"] (aH xS):=ac
def Ll(F:aY K mg "wire_of" xS)(T:Txt K mg t)(bc:ã P w K mg à 3 "signs_number" ["signs"] (gJ K)):ã P w K mg à 4 "wire_of" ["signs"] (Be K):=by
 refine F.eY Lk λf bM A á s H vs Q E hr h=>?_;obtain⟨l,cs,rfl,hl,cl,sg,q⟩:=h;refine⟨_,aE (aQ (c5 (aA (ah (aZ K) (pv 0) aF) (aA (ah (aZ K) (pv 0) aF) (aA (c5 (aA (aO bc hr (aA (cP (cU K) (pv 0) (bj aF) (bj aF)) aD)) (aA (aO bc hr (aA (cP (cU K) (pv 0) (bj aF) (bj aF)) aD)) aD))) aD))))),?_⟩;have hsz:=bZ;obtain⟨a,b,c,d,e,f,rfl⟩:∃a b c d e f,cs=[a,b,c,d,e,f]:=by
  match cs,cl with
  |[a,b,c,d,e,f],_=>exact⟨a,b,c,d,e,f,rfl⟩
 refine⟨_,rfl,l,_,_,.int a,rfl,rfl,hl,rfl,_,rfl,l,_,_,.int b,rfl,rfl,hl,rfl,?_⟩;refine⟨_,rfl,_,rfl,_,rfl,l,_,rfl,hl,λp1 GQ=>?_⟩;have ec1:dN ([a,b,c,d,e,f].map V.int) (some 2) (some 4)=[c,d].map V.int:=by rw[km (by decide) (by decide)];rfl
 have ec2:dN ([a,b,c,d,e,f].map V.int) (some 4) (some 6)=[e,f].map V.int:=by rw[km (by decide) (by decide)];rfl
 rw[ec1];obtain⟨H1,ja,s1,e1⟩:=nL (aI.refl H) (o:=.lst ([c,d].map V.int)) GQ;rw[ja];have m1:∀n∈[c,d],n∈[a,b,c,d,e,f]:=λn hn=>by simp only[au,bE,dJ]at hn ⊢;rcases hn with rfl|rfl<;>simp
 have m2:∀n∈[e,f],n∈[a,b,c,d,e,f]:=λn hn=>by simp only[au,bE,dJ]at hn ⊢;rcases hn with rfl|rfl<;>simp
 refine⟨p1,[c,d],rfl,aX.of e1,λn hn=>sg n (m1 n hn),?_⟩;refine⟨_,rfl,_,rfl,_,rfl,l,_,rfl,s1.seq hl,λp2 uE=>?_⟩;rw[ec2];obtain⟨H2,ja,s2,e2⟩:=nL (aI.refl H1) (o:=.lst ([e,f].map V.int)) uE;rw[ja];refine⟨p2,[e,f],rfl,aX.of e2,λn hn=>sg n (m2 n hn),?_⟩;refine⟨ó,λp3 Oq=>?_⟩;have s3:=(aI.refl H2).new (o:=.tup [.int (My.õ [c,d]),.int (My.õ [e,f])]) Oq;have e3:bO K (ü H2 p3 (.tup [.int (My.õ [c,d]),.int (My.õ [e,f])])) p3 [.int (My.õ [c,d]),.int (My.õ [e,f])]:=bO.of aB;generalize ü H2 p3 (.tup [.int (My.õ [c,d]),.int (My.õ [e,f])])=H3 at s3 e3 ⊢;refine⟨ô,λp4 T4=>?_⟩;have s4:=(aI.refl H3).new (o:=.tup [.int a,.int b,.ref p3]) T4;exact q p4 _ (s1.trans (s2.trans (s3.trans s4))) (GR.mk (w:=⟨a,b,My.õ [c,d],My.õ [e,f]⟩) (bO.of aB) (s4.tup e3))
def OW.nat{N:Nw}(c:OW N)(h:ar K H 4 v (K85.VG N)):Fd K H v N:=by rw[c.VG]at h;exact h
inductive jc(K:Ni)(vs:List V)(H:Hp)(Q:VK)(_:XK):Prop
 |mk (v:V) (N:Nw) (_:vs=[v]) (_:Fd K H v N) (_:OW N) (_:∀(r:JY)(H':Hp),aI H H'->bO K H' r ((nb N).map V.int)->Q (.ref r) H')
def jd:aM ["news","near","signs","wire"] ["news"] (aH pR):=ac
def Fs(F:aY K mg "news_body" pR)(T:Txt K mg t)(ba:ã P w K mg à 1 "number_signs" ["number","many"] gI)(oF:ã P w K mg à 2 "wire_signs" ["wire"] (tF K))(oG:ã P w K mg à 2 "text_signs" ["text"] sv):ã P w K mg à 3 "news_body" ["news"] (jc K):=by
 refine F.eY jd λf bM A á s H vs Q E hr h=>?_;obtain⟨v,N,rfl,hN,cN,q⟩:=h;refine⟨_,aC (aV 1 jd (ah (ay K) (pv 0) aF))
  (aC (aV 2 jd (aT (dI K) (aT (dI K) (bJ (aA (ah (ay K) (pv 0) aF) aD)) (aO ba hr (aA (ah (ay K) (pv 0) aF) (aA (aR T.CB) aD)))) (bJ (aA (cv K T.cS (pv 1)) aD))))
  (aC (cu (vG K (pv 1)) (bu 3 jd) (aE (bA (ff K oa aAk aAj w8 (pv 2) (aA (aO oF hr (aA (pv 3) aD)) aD)))))
  (aC (bA (ff K oa aAk aAj w8 (pv 2) (aA (aO oG hr (aA (ff K DX PySem.F.slot_str_join PySem.F.type_str_join (Pt K) cE (aA (ah (ay K) (pv 0) aF) aD)) aD)) aD)))
  (aE (aQ (av (cW K) (by rfl) T.gG i6 (aA (pv 2) aD))))))),?_⟩
 have hsz:=bZ;obtain⟨a,p,qn,zs,rfl,h1,h2,h3,h4,h5⟩:=hN.out;obtain⟨hh,hn,hw,hm⟩:=cN.ok;have zl:zs.length=N.near.length:=by rw[<-h4,aJ]
 have wl:=hw.2.1;refine⟨_,rfl,a,_,_,.ref p,rfl,rfl,h1,rfl,?_⟩;refine⟨_,rfl,a,_,_,.int N.h,rfl,rfl,h1,rfl,ò,λl1 Hq=>?_⟩;obtain⟨H1,ja,s1,e1⟩:=nL (aI.refl H) (o:=.lst [.int N.h]) Hq;rw[ja];refine⟨_,rfl,a,_,_,.int N.n,rfl,rfl,s1.tup h1,rfl,N.n,3,rfl,by decide,by decide,hn.1,Z2 hn.1 hn.2,λl2 H2 n2 s2 e2=>?_⟩;refine⟨l1,l2,_,_,rfl,rfl,aX.of (s2 _ _ e1),aX.of e2,by show 1+3<=sizeLine;decide,λl3 hl3=>?_⟩;have s3:=(aI.refl H2).new (o:=.lst (([N.h]++d3 N.n).map V.int)) hl3;have e3:=@aB H2 l3 (.lst (([N.h]++d3 N.n).map V.int));have S3:=s1.trans (s2.trans s3);refine⟨_,rfl,p,_,rfl,.inr (S3.tup h2),ò,λl4 hl4=>?_⟩;have s4:=(aI.refl (ü H2 l3 (.lst (([N.h]++d3 N.n).map V.int)))).new (o:=.lst [.int (((zs.map (·.1)).length:Nat):Int)]) hl4;refine⟨l3,l4,_,_,rfl,rfl,aX.of (s4 _ _ e3),aX.of aB,by show 4+1<=sizeLine;decide,λl5 hl5=>?_⟩;have S4:=S3.trans s4;have n5:H l5=none:=by
  cases e:H l5 with
  |none=>rfl
  |some o=>exact absurd ((S4 _ _ e).symm.trans hl5) (by simp)
 have s5:=(aI.refl _).new (o:=.lst (([N.h]++d3 N.n++[(((zs.map (·.1)).length:Nat):Int)]).map V.int)) hl5;have S5:=S4.trans s5
 let I:Nat->_->_->Prop:=λi Z H'=>∃v3:Option V,Z=[some (.ref a),some (.ref p),some (.ref l5),v3]/\aI H H'/\H' l5=some (.lst (([N.h]++d3 N.n++[(((zs.map (·.1)).length:Nat):Int)]++(N.near.take i).flatMap wS).map V.int))
 refine⟨_,rfl,p,rfl,⟨_,S5.tup h2⟩,y6 (K:=K) (a:=p) (xs:=zs.map (·.1)) I ⟨none,rfl,S5,aB⟩ (λi Z H' _ ⟨_,_,s,_⟩=>s.tup h2) ?_ ?_⟩
 .rintro i y Z H6 hi ⟨v3,rfl,s6,e6⟩;rw[bh]at hi;cases ez:zs[i]? with
  |none=>rw[ez]at hi;cases hi
  |some z =>
   rw[ez]at hi;cases hi;have hz:=bL ez;have en:N.near[i]?=some z.2:=(by rw[<-h4,bh,ez];rfl);have il:i<zs.length:=(bq.mp ez).1;refine⟨_,rfl,.inl ⟨rfl,_,aX.of e6⟩,_,rfl,z.1,z.2,rfl,(h3 z hz).same s6,hw.1 _ (bL en),λr H7 s7 e7=>?_⟩;have e6':=s7 _ _ e6;refine⟨l5,r,_,_,rfl,rfl,e6',e7,?_,⟨_,rfl,(s6.trans s7).put n5,?_⟩⟩
   .simp only[aJ,bV,rC,cc,Li];show 1+3+1+_+6<=sizeLine;lia
   rw[aB,þ en,Ju,<-bD,jH];simp
 rintro Z H6 ⟨v3,rfl,s6,e6⟩;rw[aJ,zl,eV]at e6;refine⟨_,rfl,.inl ⟨rfl,_,aX.of e6⟩,?_⟩;have ej:Txt.join " " (N.names.map ai)=ai (jn N.names):=by rw[BL,<-Fp];exact StrLaws.glued_eq_join _ _
 have l4':∀x∈N.names,x.length<=4:=λx hx=>(hm.2.2 x hx).1.2;have jl:=Fn N.names l4';have m4:=hm.1;have ev:N.names.map qz=(N.names.map ai).map V.str:=by rw[bB];rfl
 have su:((N.names.map ai).map (·.length)).sum<=4*N.names.length:=by
  clear jl m4 ev ej e6 hm h5;generalize N.names=ns at l4'
  induction ns with
  |nil=>exact ae _
  |cons n ns ih =>
   have h1:=l4' n bp;have h2:=ih λx hx=>l4' x (bU _ hx);rw[bz,bz,EA,cQ];show n.toArray.size+_<=_;rw[bo];lia
 refine⟨rfl,_,rfl,a,_,_,.ref qn,rfl,rfl,s6.tup h1,rfl," ",qn,N.names.map ai,rfl,rfl,by rw[<-ev];exact s6.tup h5,?_,?_⟩
 .rw[aJ,BL];show _+N.names.length*1<=_;lia
 rw[ej];have lt:∀c∈jn N.names,c<128/\0<=jW c:=λc hc=>by
  have hl:=Fq hm.2.2 hc;have h0:c<128:=by lia
  exact⟨h0,(Fo c h0 hl).1⟩
 refine⟨jn N.names,rfl,lt,by lia,λr2 H7 n7 s7 e7=>?_⟩;have e6':=s7 _ _ e6;refine⟨l5,r2,_,_,rfl,rfl,e6',e7,?_,?_⟩
 .simp only[aJ,bV,rC];show 1+3+1+_+_<=sizeLine;lia
 rw[<-bD];have s8:=(s6.trans s7).put n5 (o:=.lst (([N.h]++d3 N.n++[(N.near.length:Int)]++N.near.flatMap wS++(jn N.names).map jW).map V.int));refine⟨_,rfl,l5,_,rfl,.inl ⟨aX.of aB,λr3 Xo=>?_⟩⟩;exact q r3 _ (s8.trans ((aI.refl _).new Xo)) (bO.of aB)
def oH{a:JY}(h:H a=some (.lst xs)):∀ys,¬Rd H a (.tup ys):=λys e=>by rcases e with e|⟨u,e⟩<;>(rw[h]at e;cases e)
def mV{o:HO}(h:∀ys,¬Rd H D (.tup ys)):ù H (ü H D o):=λa xs e=>by
 have n:a≠D:=λz=>h xs (z▸e);rcases e with e|⟨u,e⟩
 .exact .inl (by rw[aN n];exact e)
 exact .inr ⟨u,by rw[aN n];exact e⟩
inductive yY(K:Ni)(vs:List V)(H:Hp)(Q:VK)(_:XK):Prop
 |mk (l:JY) (ms:List (List Nat)) (_:vs=[.ref l]) (_:aX K H l (((jn ms).map jW).map V.int)) (_:Ih ms) (_:∀(r:JY)(H':Hp),aI H H'->H' r=some (.lst (ms.map qz))->Q (.ref r) H')
def Ir:aM ["signs"] ["signs"] (aH uQ):=ac
def Iu(F:aY K mg "names_of" uQ)(T:Txt K mg t)(oI:ã P w K mg à 2 "signs_text" ["signs"] (tD K)):ã P w K mg à 3 "names_of" ["signs"] (yY K):=by
 refine F.eY Ir λf bM A á s H vs Q E hr h=>?_;obtain⟨l,ms,rfl,hl,ok,q⟩:=h;refine⟨_,aC (ax (eE (Ga (pv 0) (λ_=>rfl)))
   (aE (aQ (bJ aD)))
   (aW))
  (aE (SJ (aE (aQ (ff K DX PySem.F.slot_str_split PySem.F.type_str_split Pw (aO oI hr (aA (pv 0) aD)) (aA cE aD)))))),?_⟩
 have hsz:=bZ;have ej:=M9 ok.2.2;have nl:((jn ms).map jW).length<=90:=by have:=Fn ms λx hx=>(ok.2.2 x hx).1.2;have:=ok.1;rw[aJ];lia
 have good:∀n∈(jn ms).map jW,0<=n/\n<96/\n≠5:=λn hn=>by obtain⟨c,hc,rfl⟩:=ao.mp hn;have hl:=Fq ok.2.2 hc;have:=Fo c (by lia) hl;exact⟨this.1,this.2.1,this.2.2.1⟩
 generalize(jn ms).map jW=ns at hl ej nl good;by_cases c:ns=[]
 .subst c;refine⟨_,rfl,false,.inl ⟨_,hl,rfl⟩,?_⟩;refine(show if(!false)=true then _ else _ from ig ?_);refine⟨ñ,λr wN=>?_⟩;obtain rfl:[]=ms:=ej;exact q r _ ((aI.refl H).new wN) aB
 refine⟨_,rfl,true,.inl ⟨_,hl,by cases ns with|nil=>exact absurd rfl c|cons _ _=>rfl⟩,?_⟩
 refine(show if(!true)=true then _ else _ from c9 ?_);refine⟨_,rfl,l,ns,rfl,hl,by lia,good,λH1 s1=>?_⟩;refine⟨rfl,?_⟩;have e:(Txt.split (ai (ns.map λn=>code n.toNat)) " ").map V.str=ms.map qz:=by rw[<-ej,BL,<-M8,bB];unfold US;rw[aK c];rfl
 have el:(Txt.split (ai (ns.map λn=>code n.toNat)) " ").length<=4:=by have:=az List.length e;rw[aJ,aJ]at this;rw[this];exact ok.1
 refine⟨ai (ns.map λn=>code n.toNat)," ",rfl,rfl,by rw[BL];rfl,by show(ns.map _).toArray.size<=1000;rw[bo,aJ];lia,by lia,λr wN=>?_⟩;rw[e];exact q r _ (s1.new wN) aB
inductive Bg(K:Ni)(vs:List V)(H:Hp)(Q:VK)(_:XK):Prop
 |mk (p:JY) (N:Nw) (_:vs=[.ref p]) (_:bO K H p ((nb N).map V.int)) (_:OW N) (_:∀(r:JY)(H':Hp),aI H H'->Fd K H' (.ref r) N->Q (.ref r) H')
def iO:aM ["body","signs","names_at","near","news"] ["body"] (aH xT):=ac
def Lm(F:aY K mg "news_of" xT)(T:Txt K mg t)(cJ:ã P w K mg à 1 "is_sign" ["number"] iK)(xo:ã P w K mg à 4 "wire_of" ["signs"] (Be K))(bc:ã P w K mg à 3 "signs_number" ["signs"] (gJ K))(ug:ã P w K mg à 3 "names_of" ["signs"] (yY K))(gd:ã P w K mg à 5 "made_news" ["house","number","near","names"] (n9 K))(cz:ã P w K mg à 3 "news_body" ["news"] (jc K)):ã P w K mg à 6 "news_of" ["body"] (Bg K):=by
 refine F.eY iO λf bM A á s H vs Q E hr h=>?_;obtain⟨p,N,rfl,hp,cN,q⟩:=h;refine⟨_,aC (aV 1 iO (av (dB K) (by rfl) T.iI i7 (aA (pv 0) aD)))
  (aC (ax (PW.pt (kX (bI kZ (cv K T.cS (pv 1)) (aR T.A7)) (jx (eE (fX (bW (xE K rfl) (by rfl) T.QT boot_all (aA (j7 (Nc:=["sign"]) (ix:=[none]) iO (bH K (pv 1)) (λC fp s H=>⟨bN,(aO cJ hr (aA (pv 0) aD))⟩)) aD)))))))
   (aE (dP))
   (aW))
  (aC (aV 2 iO (aT bT (aR T.A7) (aT dM (aR T.ph) (ah (aZ K) (pv 1) (aR T.IG)))))
  (aC (ax (bI kZ (cv K T.cS (pv 1)) (pv 2))
   (aE (dP))
   (aW))
  (aC (yI 3 (Nc:=["at","signs"]) (ix:=[none,some 1]) iO (C4 (by rfl) T.cw (aA (aR T.A7) (aA (pv 2) (aA (aR T.ph) aD)))) (λC fp s H=>⟨bN,(aO xo hr (aA (cP (cU K) (pv 1) (bj (pv 0)) (bj (aT bT (pv 0) (aR T.ph)))) aD))⟩))
  (aC (aV 4 iO (aO gd hr (aA (ah (aZ K) (pv 1) aF) (aA (aO bc hr (aA (cP (cU K) (pv 1) (bj (aR T.LK)) (bj (aR T.IG))) aD)) (aA (pv 3) (aA (aO ug hr (aA (cP (cU K) (pv 1) (bj (pv 2)) jS) aD)) aD))))))
  (aC (ax (bI (nE K (dU hr)) (aO cz hr (aA (pv 4) aD)) (av (cW K) (by rfl) T.gG i6 (aA (pv 1) aD)))
   (aE (dP))
   (aW))
  (aE (aQ (pv 4))))))))),?_⟩
 have hsz:=bZ;have bl:=RD cN.ok;have sg:=VQ cN.ok;have ed:dec (nb N)=N:=XJ cN.ok;have er:(nb N).drop (5+6*N.near.length)=(jn N.names).map jW:=NB N;have em':(nb N).getD 4 0=(N.near.length:Int):=by rw[wD];rfl
 have em:(nb N)[4]?=some (N.near.length:Int):=by rw[wD];rfl
 have eb0:(nb N)[0]?=some N.h:=by rw[wD];rfl
 have wl:=cN.ok.2.2.1.2.1;have ezn:(List.range N.near.length).map (λk=>Bd (((nb N).drop (5+6*k)).take 6))=N.near:=by have:=az Nw.near ed;unfold dec at this;dsimp only at this;rw[em',show((N.near.length:Int)).toNat=N.near.length by lia]at this;exact this
 have en:My.õ (((nb N).drop 1).take 3)=N.n:=az Nw.n ed;generalize hbs:nb N=bs at hp bl sg er em em' eb0 ezn en;refine⟨_,rfl,p,_,rfl,.inr hp,λl hl=>?_⟩;obtain⟨H1,ja,s1,e1⟩:=nL (aI.refl H) (o:=.lst (bs.map V.int)) hl;rw[ja];refine⟨_,rfl,l,_,rfl,.inl (aX.of e1),?_⟩;refine⟨_,_,rfl,rfl,_,rfl,eT (by rw[aJ];lia) ?_⟩;refine⟨_,rfl,l,rfl,⟨_,aX.of e1⟩,λD hD=>?_⟩;refine iR (K:=K) (a:=l) (xs:=bs.map V.int) (λi Z H'=>∃v:Option V,Z=[v]/\aI H1 H'/\H' D=some (.lst (((bs.take i).map λn=>decide (0<=n/\n<97)).map V.bl))) ⟨none,rfl,(aI.refl _).new hD,aB⟩ (λi Z H' _ ⟨_,_,s,_⟩=>aX.of (s _ _ e1)) ?_ ?_
 .rintro i y Z H2 N hN hi ⟨v,rfl,s2,e2⟩;obtain⟨n,hn,rfl⟩:=dH hi;have il:i<bs.length:=(bq.mp hn).1;refine cA ?_;refine⟨_,rfl,n,rfl,_,e2,by rw[aJ,aJ,cc];lia,hN _ _ ⟨_,rfl,s2.put hD,?_⟩⟩;rw[aB,þ hn,bD,bD];rfl
 rintro Z H2 ⟨v,rfl,s2,e2⟩;rw[aJ,eV]at e2;refine⟨D,_,rfl,aX.of e2,_,rfl,?_⟩;have S2:=s1.trans s2;have ea:(bs.map λn=>decide (0<=n/\n<97)).all id=true:=by rw[List.all_map,og];exact λn hn=>bw (sg n hn)
 rw[ea];refine(show if(!true)=true then _ else _ from c9 ?_);have Z4:=s2 _ _ e1;have at4:rH (bs.map V.int) 4=some (.int (N.near.length:Int)):=(by have z:=jT (show(bs.map V.int)[4]?=some (V.int (N.near.length:Int)) by rw[bh,em];rfl);exact z);refine⟨_,rfl,l,_,_,.int (N.near.length:Int),rfl,rfl,aX.of Z4,at4,_,_,rfl,rfl,.inl ⟨by decide,by decide⟩,_,_,rfl,rfl,?_⟩;refine⟨_,rfl,l,_,rfl,.inl (aX.of Z4),_,rfl,_,_,rfl,rfl,_,rfl,eT (by rw[aJ];lia) ?_⟩;generalize hm:N.near.length=m at *;have rs:(Builtin.Range.rangeSize 5 (5+6*(m:Int)) 6).toNat=m:=by unfold Builtin.Range.rangeSize;rw[aL (by decide)];split<;>lia
 refine⟨_,rfl,5,5+6*(m:Int),6,rfl,?_,λD2 Bx=>?_⟩
 .exact⟨by decide,by decide,by lia,by lia,by decide,by decide⟩
 rw[rs]
 let J:Nat->_->_->Prop:=λi Z H'=>∃(v:Option V)(zs:List (V×Wr)),Z=[v,some (.ref l)]/\aI H2 H'/\H' D2=some (.lst (zs.map (·.1)))/\qJ K H' zs/\zs.map (·.2)=(List.range i).map λk=>Bd ((bs.drop (5+6*k)).take 6)
 refine Nl (lo:=5) (st:=6) (n:=m) J ⟨none,[],rfl,(aI.refl _).new Bx,aB,λz hz=>absurd hz bE,rfl⟩ ?_ ?_
 .rintro i Z H3 N hN hi ⟨v,zs,rfl,s3,e3,w3,z3⟩;have zl:zs.length=i:=by have:=az List.length z3;rwa [aJ,aJ,wU]at this
  refine cA ?_;have ec:dN (bs.map V.int) (some (5+(i:Int)*6)) (some (5+(i:Int)*6+6))=((bs.drop (5+6*i)).take 6).map V.int:=by rw[km (by lia) (by lia),<-k9,<-ma];rw[show(5+(i:Int)*6).toNat=5+6*i by lia,show(5+(i:Int)*6+6).toNat-(5+6*i)=6 by lia]
  refine⟨_,rfl,_,rfl,_,rfl,_,rfl,_,_,rfl,rfl,_,rfl,l,_,rfl,aX.of (s3 _ _ Z4),λp1 GQ=>?_⟩;rw[ec];obtain⟨H4,ja,s4,e4⟩:=nL (aI.refl H3) (o:=.lst (((bs.drop (5+6*i)).take 6).map V.int)) GQ;rw[ja];refine⟨p1,_,rfl,aX.of e4,by rw[cc,mX];lia,λn hn=>sg n (Jq (zZ hn)),λr H5 s5 w5=>?_⟩;have e5:=s5 _ _ (s4 _ _ e3);have kz:=mV (o:=.lst (zs.map (·.1)++[V.ref r])) (oH e5);refine⟨_,e5,by rw[aJ];lia,hN _ _ ⟨_,zs++[(.ref r,Bd ((bs.drop (5+6*i)).take 6))],rfl,(s3.trans (s4.trans s5)).put Bx,by rw[aB,bD];rfl,λz hz=>?_,by rw[bD,z3,Dy,bD];rfl⟩⟩;rcases cH.mp hz with h|h
  .exact((w3 z h).same (s4.trans s5)).kept kz
  rw[bX.mp h];exact w5.kept kz
 rintro Z H3 ⟨v3,zs,rfl,s3,e3,w3,z3⟩;have zl:zs.length=m:=by have:=az List.length z3;rwa [aJ,aJ,wU]at this
 have S3:=S2.trans s3;have e13:=s3 _ _ Z4;have at0:rH (bs.map V.int) 0=some (.int N.h):=(by have z:=jT (show(bs.map V.int)[0]?=some (V.int N.h) by rw[bh,eb0];rfl);exact z);refine⟨_,rfl,l,_,_,.int N.h,rfl,rfl,aX.of e13,at0,?_⟩;have ec1:dN (bs.map V.int) (some 1) (some 4)=((bs.drop 1).take 3).map V.int:=by rw[km (by decide) (by decide),<-k9,<-ma];rfl
 refine⟨_,rfl,_,rfl,_,rfl,l,_,rfl,aX.of e13,λp1 GQ=>?_⟩;rw[ec1];obtain⟨H4,ja,s4,e4⟩:=nL (aI.refl H3) (o:=.lst (((bs.drop 1).take 3).map V.int)) GQ;rw[ja];refine⟨p1,_,rfl,aX.of e4,λn hn=>sg n (Jq (zZ hn)),?_⟩;rw[en];have ec2:dN (bs.map V.int) (some (5+6*(m:Int))) none=((jn N.names).map jW).map V.int:=by rw[zL (by lia),<-k9,show(5+6*(m:Int)).toNat=5+6*m by lia,er]
 refine⟨_,rfl,_,rfl,_,rfl,_,rfl,l,_,rfl,aX.of (s4 _ _ e13),λp2 uE=>?_⟩;rw[ec2];obtain⟨H5,ja,s5,e5⟩:=nL (aI.refl H4) (o:=.lst (((jn N.names).map jW).map V.int)) uE;rw[ja];refine⟨p2,N.names,rfl,aX.of e5,cN.ok.2.2.2,λrn H6 s6 e6=>?_⟩;have S36:=s4.trans (s5.trans s6);have S6:=S3.trans S36;rw[ezn]at z3;refine⟨true,true,D2,rn,zs,N,rfl,aX.of (S36 _ _ e3),w3.same S36,z3,aX.of e6,cN.ok,λr H7 s7 d7=>?_⟩;have nM:Fd K H7 (.ref r) N:=cN.nat d7;refine⟨_,rfl,.ref r,N,rfl,nM,cN,λr4 H8 s8 t8=>?_⟩;rw[hbs]at t8;have e18:=(s3.trans (S36.trans (s7.trans s8))) _ _ Z4;refine⟨_,rfl,l,_,rfl,.inl ⟨aX.of e18,λr5 hr5=>?_⟩⟩;have s9:=(aI.refl H8).new (o:=.tup (bs.map V.int)) hr5;have e9:bO K (ü H8 r5 (.tup (bs.map V.int))) r5 (bs.map V.int):=bO.of aB;generalize ü H8 r5 (.tup (bs.map V.int))=H9 at s9 e9 ⊢;have d9:ar K H9 8 (.ref r5) (.tuple (bs.map .int)):=LW e9;refine⟨.tuple (bs.map .int),.tuple (bs.map .int),LW (s9.tup t8),d9,_,rfl,?_⟩;rw[aL rfl,d9.eqv];refine(show if(!true)=true then _ else _ from c9 ?_);exact⟨_,rfl,q r _ (S6.trans (s7.trans (s8.trans s9))) (nM.same (s8.trans s9))⟩
def qW(H:Hp)(l:JY):Prop:=∃a b c:Int,H l=some (.lst [.int a,.int b,.int c])
structure fI(l:JY)(H H':Hp):Prop where
 m:∀b o,b≠l->H b=some o->H' b=some o
 a:qW H l
 b:qW H' l
def fI.refl{l:JY}(h:qW H l):fI l H H:=⟨λ_ _ _ e=>e,h,h⟩
def fI.trans{l:JY}(x:fI l H H')(y:fI l H' MW):fI l H MW:=⟨λb o n e=>y.m b o n (x.m b o n e),x.a,y.b⟩
def fI.kept{l:JY}(x:fI l H H'):ù H H':=λa xs h=>by
 obtain⟨i,j,k,e⟩:=x.a;have n:a≠l:=λz=>by subst z;rcases h with h|⟨u,h⟩<;>(rw[e]at h;cases h)
 rcases h with h|⟨u,h⟩
 .exact .inl (x.m _ _ n h)
 exact .inr ⟨u,x.m _ _ n h⟩
def fI.same{l:JY}(x:fI l H H')(s:aI H' MW):fI l H MW:=⟨λb o n e=>s _ _ (x.m b o n e),x.a,by obtain⟨i,j,k,e⟩:=x.b;exact⟨i,j,k,s _ _ e⟩⟩
def qW.same{l:JY}(h:qW H l)(s:aI H H'):qW H' l:=by obtain⟨i,j,k,e⟩:=h;exact⟨i,j,k,s _ _ e⟩
def fI.of{l:JY}(h:qW H l)(s:aI H H'):fI l H H':=(fI.refl h).same s
def fI.put{l p:JY}{o:HO}(x:fI l H H')(hp:H p=none)(n:p≠l):fI l H (ü H' p o):=⟨λb u nb e=>by rw[aN (aP e hp)];exact x.m b u nb e,x.a,by obtain⟨i,j,k,e⟩:=x.b;exact⟨i,j,k,by rw[aN (bS n)];exact e⟩⟩
def fI.seq{l a:JY}(x:fI l H H')(h:aX K H a xs)(n:a≠l):aX K H' a xs:=by
 rcases h with(z|⟨o,z⟩)|z
 .exact .inl (.inl (x.m _ _ n z))
 .exact .inl (.inr ⟨o,x.m _ _ n z⟩)
 exact .inr z
def fI.free{l p:JY}(x:fI l H H')(h:H' p=none):H p=none:=by
 cases e:H p with
 |none=>rfl
 |some o =>
  by_cases n:p=l
  .subst n;obtain⟨i,j,k,z⟩:=x.b;rw[z]at h;cases h
  rw[x.m _ _ n e]at h;cases h
def fI.Ln{l p:JY}(x:qW H l)(h:H p=none):p≠l:=λz=>by subst z;obtain⟨i,j,k,e⟩:=x;rw[e]at h;cases h
def wF:Sp:=λvs H Q _=>∃c:Int,vs=[.int c]/\∀(r:JY)(H':Hp),aI H H'->H r=none->qW H' r->Q (.ref r) H'
def Ft:aM ["cell"] ["cell"] (aH pV):=ac
def Fu(F:aY K mg "_law_left" pV)(T:Txt K mg t):ã P w K mg à 1 "_law_left" ["cell"] wF:=by refine F.eY Ft λf bM A á s H vs Q E hr h=>?_;obtain⟨c,rfl,q⟩:=h;refine⟨_,aE (aQ (bJ (aA (bW (Cq rfl) (by rfl) T.VD boot_max (aA aF (aA (aT o4 (pv 0) (aT O3 aF aF)) aD))) (aA (aT cO (pv 0) (aT O3 aF aF)) (aA aF aD))))),?_⟩;refine⟨_,rfl,_,_,rfl,rfl,⟨by decide,by decide,by decide⟩,_,_,rfl,rfl,_,_,rfl,?_⟩;refine⟨_,rfl,_,_,rfl,rfl,⟨by decide,by decide,by decide⟩,_,_,rfl,rfl,(by show(0:Int)<10 ^ (18:Int).toNat;decide),ô,λr wN=>?_⟩;exact q r _ ((aI.refl H).new wN) wN ⟨_,_,_,aB⟩
inductive fR(K:Ni)(vs:List V)(H:Hp)(Q:VK)(_:XK):Prop
 |mk (l:JY) (m:Int) (_:vs=[.ref l,.int m]) (_:qW H l) (_:1<=m) (_:m<1000000) (_:∀(d:Int)(H':Hp),0<=d->d<m->fI l H H'->Q (.int d) H')
def je:aM ["left","base","digit","near","stir"] ["left","base"] (aH pW):=ac
def Fv(F:aY K mg "_law_next" pW)(T:Txt K mg t):ã P w K mg à 1 "_law_next" ["left","base"] (fR K):=by
 refine F.eY je λf bM A á s H vs Q E hr h=>?_;obtain⟨l,m,rfl,hl,m1,m2,q⟩:=h;refine⟨_,aC (ax (bI x6 (ah (aZ K) (pv 0) aF) aF)
   (aC (aV 2 je (aT cO (ah (aZ K) (pv 0) aF) (pv 1)))
   (aC (tm (aT y8 (ah (aZ K) (pv 0) aF) (pv 1)) (tj (pv 0) aF set_list))
   (aE (aQ (pv 2)))))
   (aW))
  (aC (tm (aT bT (ah (aZ K) (pv 0) aF) aF) (tj (pv 0) aF set_list))
  (aC (aV 3 je (aT cO (aT bT (ah (aZ K) (pv 0) aF) (aT dM aF (ah (aZ K) (pv 0) aF))) aF))
  (aC (aV 4 je (aT cO (aT dM (aT bT (pv 3) aF) (aT bT (pv 3) aF)) aF))
  (aE (aQ (aT cO (aT y8 (aT cO (aT dM (pv 4) (pv 4)) aF) aF) (pv 1))))))),?_⟩
 obtain⟨a,b,c,e⟩:=hl;have st:∀x y z:Int,fI l H (ü H l (.lst [.int x,.int y,.int z])):=λx y z=>⟨λp o n e=>by rw[aN n];exact e,⟨a,b,c,e⟩,⟨x,y,z,aB⟩⟩;refine⟨_,rfl,l,_,_,_,rfl,rfl,aX.of e,rfl,_,_,rfl,rfl,_,rfl,?_⟩;refine WB (λha=>?_) (λha=>?_)
 .refine⟨_,rfl,l,_,_,_,rfl,rfl,aX.of e,rfl,_,rfl,_,_,rfl,rfl,(by show(0:Int)<m;lia),?_⟩;refine⟨_,rfl,l,_,_,_,rfl,rfl,aX.of e,rfl,_,rfl,_,_,rfl,rfl,⟨by lia,by lia⟩,_,rfl,l,_,_,0,rfl,rfl,e,rfl,?_⟩;exact⟨_,rfl,q _ _ (gn _ (by lia)) (gQ _ (by lia)) (st _ _ _)⟩
 refine⟨_,rfl,l,_,_,_,rfl,rfl,aX.of e,rfl,_,_,rfl,rfl,_,rfl,l,_,_,2,rfl,rfl,e,rfl,?_⟩;have e2:(ü H l (.lst ([V.int a,.int b,.int c].set 2 (.int (c+1))))) l=some (.lst [.int a,.int b,.int (c+1)]):=aB;have s2:fI l H (ü H l (.lst ([V.int a,.int b,.int c].set 2 (.int (c+1))))):=st a b (c+1);generalize ü H l (.lst ([V.int a,.int b,.int c].set 2 (.int (c+1))))=H2 at e2 s2 ⊢;refine⟨_,rfl,l,_,_,_,rfl,rfl,aX.of e2,rfl,_,rfl,l,_,_,_,rfl,rfl,aX.of e2,rfl,_,_,rfl,rfl,.inl ⟨by decide,by decide⟩,_,_,rfl,rfl,_,_,rfl,rfl,(by show(0:Int)<1000000007;decide),?_⟩;have n0:=gn (b+7919*(c+1)) (show(1000000007:Int)≠0 by decide);have n1:=gQ (b+7919*(c+1)) (show(0:Int)<1000000007 by decide);generalize(b+7919*(c+1))%1000000007=nr at n0 n1 ⊢;refine⟨_,rfl,_,_,rfl,rfl,_,rfl,_,_,rfl,rfl,_,_,rfl,rfl,.inl ⟨by lia,by lia⟩,_,_,rfl,rfl,(by show(0:Int)<998244353;decide),?_⟩;have t0:=gn ((nr+11)*(nr+48271)) (show(998244353:Int)≠0 by decide);have t1:=gQ ((nr+11)*(nr+48271)) (show(0:Int)<998244353 by decide);generalize(nr+11)*(nr+48271)%998244353=sr at t0 t1 ⊢;refine⟨_,rfl,_,rfl,_,_,rfl,rfl,.inl ⟨by lia,by lia⟩,_,_,rfl,rfl,(by show(0:Int)<2147483647;decide),_,_,rfl,rfl,⟨by decide,by decide⟩,_,rfl,_,_,rfl,rfl,(by show(0:Int)<m;lia),?_⟩;exact q _ _ (gn _ (by lia)) (gQ _ (by lia)) s2
inductive kN(K:Ni)(vs:List V)(H:Hp)(Q:VK)(_:XK):Prop
 |mk (l:JY) (m z:Int) (_:vs=[.ref l,.int m,.int z]) (_:qW H l) (_:0<=m) (_:m<=100) (_:1<=z) (_:z<1000000) (_:∀(r:JY)(H':Hp)(ns:List Int),fI l H H'->H r=none->H' r=some (.lst (ns.map V.int))->ns.Nodup->(∀n∈ns,0<=n/\n<z)->(ns.length:Int)<=m->(1<=m->1<=ns.length)->Q (.ref r) H')
def hW:aM ["left","most","size","found","k","number"] ["left","most","size"] (aH lP):=ac
def Bh(F:aY K mg "_law_unlike" lP)(T:Txt K mg t)(ag:ã P w K mg à 1 "_law_next" ["left","base"] (fR K)):ã P w K mg à 2 "_law_unlike" ["left","most","size"] (kN K):=by
 refine F.eY hW λf bM A á s H vs Q E hr h=>?_;obtain⟨l,m,z,rfl,hl,m0,m1,z1,z2,q⟩:=h;refine⟨_,aC (aV 3 hW (bJ aD))
  (aC (cu (cq (by rfl) T.cw (aA (pv 1) aD)) (bu 4 hW) (aC (aV 5 hW (aO ag hr (aA (pv 0) (aA (pv 2) aD))))
   (aE (ax (jR (lE K) (pv 5) (pv 3) (by rfl))
    (aE (bA (ff K oa xt xr fK (pv 3) (aA (pv 5) aD))))
    (aW)))))
  (aE (aQ (pv 3)))),?_⟩
 have hsz:=bZ;refine⟨ñ,λfr MN=>?_⟩;have Xu:fr≠l:=fI.Ln hl MN;have s0:fI l H (ü H fr (.lst [])):=fI.of hl ((aI.refl H).new MN);have e0:=@aB H fr (.lst []);generalize ü H fr (.lst [])=H0 at s0 e0 ⊢
 let I:Nat->_->Hp->Prop:=λi Z H2=>∃(ns:List Int)(v4 v5:Option V),Z=[some (.ref l),some (.int m),some (.int z),some (.ref fr),v4,v5]/\fI l H H2/\H2 fr=some (.lst (ns.map V.int))/\ns.Nodup/\(∀n∈ns,0<=n/\n<z)/\ns.length<=i/\(1<=i->1<=ns.length)
 refine⟨_,rfl,m,rfl,by lia,by lia,gY (lo:=0) (n:=m.toNat) I ⟨[],none,none,rfl,s0,e0,.nil,λn hn=>absurd hn bE,ae _,λh=>absurd h (by decide)⟩ ?_ ?_⟩
 .rintro i Z H2 hi ⟨ns,v4,v5,rfl,s2,e2,nd,bn,nl,n1⟩;refine⟨_,rfl,_,rfl,l,z,rfl,s2.b,z1,z2,λd H3 d0 d1 s3=>?_⟩;have e3:=s3.m _ _ Xu e2;have S3:=s2.trans s3;refine⟨_,rfl,_,rfl,fr,_,rfl,.inl (aX.of e3),rfl,jm _,_,rfl,?_⟩;show if(!EW (V.int d) (ns.map V.int))=true then _ else _;by_cases uk:d∈ns
  .rw[show EW (V.int d) (ns.map V.int)=true from Mr.mpr uk];exact c9 ⟨ns,_,_,rfl,S3,e3,nd,bn,by lia,λ_=>List.length_pos_of_mem uk⟩
  rw[show EW (V.int d) (ns.map V.int)=false by rw[Jz];exact λh=>uk (Mr.mp h)];refine ig ?_;refine⟨_,rfl,.inl ⟨rfl,_,aX.of e3⟩,_,rfl,fr,_,_,rfl,rfl,e3,by rw[aJ];lia,?_⟩;refine⟨ns++[d],_,_,rfl,S3.put MN Xu,by rw[aB,bD];rfl,?_,λn hn=>?_,by rw[bV];show _+1<=_;lia,λ_=>by rw[bV];show 1<=_+1;lia⟩
  .refine uv.mpr ⟨nd,by simp,λa ha b hb=>?_⟩;rw[bX.mp hb];rintro rfl;exact uk ha
  rcases cH.mp hn with h|h
  .exact bn n h
  rw[bX.mp h];exact⟨d0,d1⟩
 rintro Z H2 ⟨ns,v4,v5,rfl,s2,e2,nd,bn,nl,n1⟩;exact⟨_,rfl,q fr H2 ns s2 MN e2 nd bn (by lia) λh=>n1 (by lia)⟩
def Fw(f:Nat->Int)(t:Nat×Int)(j:Nat):Int:=if j=t.1 then(f j+t.2)%97 else f j
def tn(f:Nat->Int)(ts:List (Nat×Int)):Nat->Int:=ts.foldl Fw f
structure RF(ts:List (Nat×Int)):Prop where
 b:∀t∈ts,t.1<24/\1<=t.2/\t.2<=96
 p:ts.Pairwise λa b=>a.1<b.1
def Lo:∀(ts:List (Nat×Int))(f:Nat->Int)(i:Nat),(∀t∈ts,t.1≠i)->tn f ts i=f i
 |[],_,_,_=>rfl
 |t::ts,f,i,h=>by have:=Lo ts (Fw f t) i λx hx=>h x (bU _ hx);show tn (Fw f t) ts i=f i;rw[this];exact aK (bS (h t bp))
def VR:∀(ts:List (Nat×Int))(f:Nat->Int),ts.Pairwise (λa b=>a.1<b.1)->∀t∈ts,tn f ts t.1=(f t.1+t.2)%97
 |[],_,_,_,h=>absurd h bE
 |u::ts,f,hp,t,h=>by
  obtain⟨h1,h2⟩:=uq.mp hp;show tn (Fw f u) ts t.1=_;rcases au.mp h with rfl|h
  .rw[Lo ts _ _ λx hx e=>by have:=h1 x hx;lia];exact aL rfl
  rw[VR ts _ h2 t h];have:=h1 t h;rw[show Fw f u t.1=f t.1 from aK (by lia)]
def XN:∀(ts:List (Nat×Int))(f:Nat->Int),(∀i,i<24->0<=f i/\f i<97)->∀i,i<24->0<=tn f ts i/\tn f ts i<97
 |[],_,h=>h
 |t::ts,f,h=>XN ts (Fw f t) λi hi=>by
  unfold Fw;split
  .exact⟨gn _ (by decide),gQ _ (by decide)⟩
  exact h i hi
def RG(bf:∀i,i<24->0<=f i/\f i<97)(ok:RF ts):(My.gh 24 f (tn f ts)).length=ts.length:=by
 have nd:(ts.map (·.1)).Nodup:=by unfold List.Nodup;rw[gm];exact ok.p.imp λh e=>by lia
 have h1:∀i,i∈My.gh 24 f (tn f ts)↔i∈ts.map (·.1):=λi=>by
  rw[My.fu];constructor
  .rintro⟨_,h⟩;apply kU;intro z;exact h (Lo ts f i λt ht e=>z (ao.mpr ⟨t,ht,e⟩)).symm
  intro h;obtain⟨t,ht,rfl⟩:=ao.mp h;have b:=ok.b t ht;have:=bf t.1 b.1;refine⟨b.1,?_⟩;rw[VR ts f ok.p t ht];lia
 have a:=My.mK _ _ (My.nH 24 f (tn f ts)) λx hx=>(h1 x).mp hx;have b:=My.mK _ _ nd λx hx=>(h1 x).mpr hx;rw[aJ]at a b;lia
def Iv(f g:Nat->Int):My.gh 24 f g=My.gh 24 g f:=by
 unfold My.gh
 congr 1
 funext i
 by_cases h:f i=g i
 .simp[h]
 simp[h,bS h]
def RH(f g h:Nat->Int):(My.gh 24 f h).length<=(My.gh 24 f g).length+(My.gh 24 g h).length:=by
 rw[<-bV];refine My.mK _ _ (My.nH 24 f h) λx hx=>?_;obtain⟨h1,h2⟩:=My.fu.mp hx;rw[cH,My.fu,My.fu];by_cases e:f x=g x
 .exact .inr ⟨h1,λz=>h2 (e.trans z)⟩
 exact .inl ⟨h1,e⟩
def ND{g:Nat->Int}(bf:∀i,i<24->0<=f i/\f i<97)(sf:My.dZ f)(ok:RF ts)(hl:ts.length<=4)(h:My.Az (tn f ts) g):(∀i,i<24->f i=g i)/\ts.length<=2:=by
 have a:=RG bf ok;have b:=RH f (tn f ts) g;have c:=h.wM;have e:=My.Ze bf h.b sf h.sealed (by lia);refine⟨e,?_⟩;rw[<-a,Iv];have:My.gh 24 (tn f ts) f=My.gh 24 (tn f ts) g:=by unfold My.gh;refine List.filter_congr λi hi=>?_;rw[e i (jL.mp hi)]
 rw[this];exact c
def UT(bf:∀i,i<24->0<=f i/\f i<97)(sf:My.dZ f)(ok:RF ts)(hl:ts.length<=2):My.Az (tn f ts) f:=⟨bf,sf,by rw[Iv,RG bf ok];exact hl⟩
abbrev Ts:=List (JY×Nat×Int)
def UU(K:Ni)(H:Hp)(ts:Ts):Prop:=∀t∈ts,bO K H t.1 [.int ((t.2.1:Nat):Int),.int t.2.2]
def yy(t:JY×Nat×Int):V:=.ref t.1
inductive tG(K:Ni)(vs:List V)(H:Hp)(Q:VK)(_:XK):Prop
 |mk (l:JY) (m:Nat) (_:vs=[.ref l,.int (m:Nat)]) (_:qW H l) (_:m<=4) (_:∀(r:JY)(H':Hp)(ts:Ts),fI l H H'->bO K H' r (ts.map yy)->UU K H' ts->RF (ts.map (·.2))->ts.length=m->Q (.ref r) H')
def gB:aM ["left","many","place","turns","k"] ["left","many"] (aH ng):=ac
def CW(F:aY K mg "_law_turns" ng)(T:Txt K mg t)(ag:ã P w K mg à 1 "_law_next" ["left","base"] (fR K)):ã P w K mg à 2 "_law_turns" ["left","many"] (tG K):=by
 refine F.eY gB λf bM A á s H vs Q E hr h=>?_;obtain⟨l,m,rfl,hl,m4,q⟩:=h;refine⟨_,aC (aV 2 gB (aO ag hr (aA (pv 0) (aA aF aD))))
  (aC (aV 3 gB (bJ aD))
  (aC (cu (cq (by rfl) T.cw (aA (pv 1) aD)) (bu 4 gB) (aC (bA (ff K oa xt xr fK (pv 3) (aA (c5 (aA (pv 2) (aA (aT bT aF (aO ag hr (aA (pv 0) (aA aF aD)))) aD))) aD)))
   (aE (aV 2 gB (aT bT (aT bT (pv 2) aF) (aO ag hr (aA (pv 0) (aA aF aD))))))))
  (aE (aQ (av (cW K) (by rfl) T.gG i6 (aA (pv 3) aD)))))),?_⟩
 have hsz:=bZ;refine⟨_,rfl,l,5,rfl,hl,by decide,by decide,λd H0 d0 d1 s0=>?_⟩;refine⟨ñ,λfr MN=>?_⟩;have Xu:fr≠l:=fI.Ln s0.b MN;have aDa:H fr=none:=s0.free MN;have s1:fI l H (ü H0 fr (.lst [])):=s0.same ((aI.refl H0).new MN);have e1:=@aB H0 fr (.lst []);generalize ü H0 fr (.lst [])=H1 at s1 e1 ⊢
 let I:Nat->_->Hp->Prop:=λi Z H2=>∃(ts:Ts)(p:Nat)(v4:Option V),Z=[some (.ref l),some (.int (m:Nat)),some (.int (p:Nat)),some (.ref fr),v4]/\fI l H H2/\H2 fr=some (.lst (ts.map yy))/\UU K H2 ts/\RF (ts.map (·.2))/\ts.length=i/\p<=4+5*i/\∀t∈ts,t.2.1<p
 refine⟨_,rfl,(m:Nat),rfl,by lia,by lia,gY (lo:=0) (n:=((m:Nat):Int).toNat) I ⟨[],d.toNat,none,by rw[show((d.toNat:Nat):Int)=d by lia];rfl,s1,e1,λt ht=>absurd ht bE,⟨λt ht=>absurd ht bE,.nil⟩,rfl,by lia,λt ht=>absurd ht bE⟩ ?_ ?_⟩
 .rintro i Z H2 hi ⟨ts,p,v4,rfl,s2,e2,ta,ok,tl,pl,pb⟩;refine⟨_,rfl,.inl ⟨rfl,_,aX.of e2⟩,_,rfl,_,rfl,l,96,rfl,s2.b,by decide,by decide,λd H3 d0 d1 s3=>?_⟩;refine⟨_,_,rfl,rfl,ó,λtp OQ=>?_⟩;have e3:=s3.m _ _ Xu e2;have n4:fr≠tp:=aP e3 OQ;have s4:=(s2.trans s3).same ((aI.refl H3).new (o:=.tup [.int (p:Nat),.int (1+d)]) OQ);have k4:ù H2 (ü H3 tp (.tup [.int (p:Nat),.int (1+d)])):=s3.kept.trans (ù.same ((aI.refl H3).new OQ));have e4:(ü H3 tp (.tup [.int (p:Nat),.int (1+d)])) fr=some (.lst (ts.map yy)):=by rw[aN n4];exact e3
  have t4:bO K (ü H3 tp (.tup [.int (p:Nat),.int (1+d)])) tp [.int (p:Nat),.int (1+d)]:=bO.of aB;generalize ü H3 tp (.tup [.int (p:Nat),.int (1+d)])=H4 at s4 k4 e4 t4 ⊢;refine⟨fr,_,_,rfl,rfl,e4,by rw[aJ];lia,?_⟩;have kp:=mV (o:=.lst (ts.map yy++[V.ref tp])) (oH e4);have s5:=s4.put (o:=.lst (ts.map yy++[V.ref tp])) aDa Xu;have e5:(ü H4 fr (.lst (ts.map yy++[V.ref tp]))) fr=some (.lst ((ts++[(tp,p,1+d)]).map yy)):=by rw[aB,bD];rfl
  have a5:UU K (ü H4 fr (.lst (ts.map yy++[V.ref tp]))) (ts++[(tp,p,1+d)]):=λt ht=>by
   rcases cH.mp ht with h|h
   .exact(k4.trans kp).tup (ta t h)
   rw[bX.mp h];exact kp.tup t4
  generalize ü H4 fr (.lst (ts.map yy++[V.ref tp]))=H5 at s5 e5 a5 ⊢;refine⟨_,rfl,_,_,rfl,rfl,_,rfl,l,5,rfl,s5.b,by decide,by decide,λd2 H6 d20 d21 s6=>?_⟩;refine⟨_,_,rfl,rfl,?_⟩;refine⟨ts++[(tp,p,1+d)],p+1+d2.toNat,_,by rw[show((p+1+d2.toNat:Nat):Int)=(p:Nat)+1+d2 by lia];rfl,s5.trans s6,s6.m _ _ Xu e5,λt ht=>s6.kept.tup (a5 t ht),⟨λt ht=>?_,?_⟩,by rw[bV,tl];rfl,by lia,λt ht=>?_⟩
  .rw[bD]at ht;rcases cH.mp ht with h|h
   .exact ok.b t h
   rw[bX.mp h];exact⟨by show p<24;lia,by show 1<=1+d;lia,by show 1+d<=96;lia⟩
  .rw[bD];refine List.pairwise_append.mpr ⟨ok.p,List.pairwise_singleton _ _,λa ha b hb=>?_⟩;obtain⟨t,ht,rfl⟩:=ao.mp ha;rw[bX.mp hb];exact pb t ht
  rcases cH.mp ht with h|h
  .have:=pb t h;lia
  rw[bX.mp h];show p<_;lia
 rintro Z H2 ⟨ts,p,v4,rfl,s2,e2,ta,ok,tl,pl,pb⟩;refine⟨_,rfl,fr,_,rfl,.inl ⟨aX.of e2,λr wN=>?_⟩⟩;have s3:=(aI.refl H2).new (o:=.tup (ts.map yy)) wN;exact q r _ ts (s2.same s3) (bO.of aB) (λt ht=>s3.tup (ta t ht)) ok (by lia)
inductive qX(K:Ni)(vs:List V)(H:Hp)(Q:VK)(_:XK):Prop
 |mk (c r:JY) (f:Nat->Int) (ts:Ts) (_:vs=[.ref c,.ref r]) (_:aX K H c (ii 24 f)) (_:bO K H r (ts.map yy)) (_:UU K H ts) (_:(∀t∈ts,t.2.1<24)) (_:∀(p:JY)(H':Hp),aI H H'->H p=none->H' p=some (.lst (ii 24 (tn f (ts.map (·.2)))))->Q (.ref p) H')
def kO:aM ["cell","turns","made","place","add"] ["cell","turns"] (aH lO):=ac
def Bi(F:aY K mg "_law_turned" lO)(T:Txt K mg t):ã P w K mg à 1 "_law_turned" ["cell","turns"] (qX K):=by
 refine F.eY kO λf bM A á s H vs Q E hr h=>?_;obtain⟨c,r,f,ts,rfl,hc,IX,ta,tb,q⟩:=h;refine⟨_,aC (aV 2 kO (av (dB K) (by rfl) T.iI i7 (aA (pv 0) aD)))
  (aC (cu (vG K (pv 1)) (iS K (i:=3) (j:=4) rfl kO.nd rfl rfl (Or.inl rfl) (Or.inl rfl)) (aE (tm (aT cO (aT bT (ah (aZ K) (pv 2) (pv 3)) (pv 4)) aF) (tj (pv 2) (pv 3) set_list))))
  (aE (aQ (pv 2)))),?_⟩
 refine⟨_,rfl,c,_,rfl,.inl hc,λp hp=>?_⟩
 let I:Nat->_->Hp->Prop:=λi Z H2=>∃(v3 v4:Option V),Z=[some (.ref c),some (.ref r),some (.ref p),v3,v4]/\aI H H2/\H2 p=some (.lst (ii 24 (tn f ((ts.take i).map (·.2)))))
 refine⟨_,rfl,r,rfl,⟨_,((aI.refl H).new hp).tup IX⟩,y6 (K:=K) (a:=r) (xs:=ts.map yy) I ⟨none,none,rfl,(aI.refl H).new hp,aB⟩ (λi Z H' _ h_=>by obtain⟨_,_,_,s,_⟩:=h_;exact s.tup IX) ?_ ?_⟩
 .rintro i y Z H2 hi ⟨v3,v4,rfl,s2,e2⟩;rw[bh]at hi;obtain⟨z,ez,rfl⟩:=gk.mp hi;have hz:=bL ez;have zb:=tb z hz;refine⟨z.1,_,rfl,s2.tup (ta z hz),rfl,_,_,rfl,_,_,rfl,rfl,?_⟩;refine⟨_,rfl,_,rfl,p,_,_,_,rfl,rfl,aX.of e2,dO (by lia) (by lia),_,rfl,_,_,rfl,rfl,_,_,rfl,rfl,(by show(0:Int)<97;decide),?_⟩;refine⟨_,rfl,_,rfl,p,_,_,z.2.1,rfl,rfl,e2,by rw[xB (by lia) (by lia),dh],?_⟩;refine⟨_,_,rfl,s2.put hp,?_⟩;rw[aB,vF zb,dh,þ ez,bD];unfold tn;rw[List.foldl_append];refine az (λl=>some (HO.lst l)) (cR λj hj=>?_);show _=V.int (Fw _ z.2 j);unfold Fw;split
  .next h=>subst h;rfl
  rfl
 rintro Z H2 ⟨v3,v4,rfl,s2,e2⟩;rw[aJ,eV]at e2;exact⟨_,rfl,q p H2 s2 hp e2⟩
def NF{L:List Int}{n:Nat}(h:L.length=n):L.map V.int=ii n λi=>L.getD i 0:=by
 apply mW;intro j;by_cases hj:j<n
 .rw[eJ hj,bh,cT (by lia)];show some (V.int L[j])=some (V.int (L.getD j 0));rw[lr,cT (by lia)];rfl
 rw[jG (by rw[aJ];lia),jG (by rw[aU];lia)]
def VS(n:Nat)(k:Nat):Int:=(7*(k:Int)+(n:Int))%97
def gf(ns:List Int):List Int:=[(ns.length:Int)]++ns++(List.range (17-ns.length)).map (VS ns.length)
def DO(h:ns.length<=10):(gf ns).length=18:=by unfold gf;simp only[bV,Jk,aJ,wU];lia
def Bj(ok:Qf ns):IsCell 18 λi=>(gf ns).getD i 0:=⟨λi hi=>by
 have hl:=DO ok.1.2;have h:(gf ns).getD i 0∈gf ns:=getD_mem (by lia);generalize(gf ns).getD i 0=x at h;unfold gf at h;rcases cH.mp h with h|h
 .rcases cH.mp h with h|h
  .rw[bX.mp h];have:=ok.1.2;lia
  exact ok.2 x h
 obtain⟨k,_,rfl⟩:=ao.mp h;exact⟨gn _ (by decide),gQ _ (by decide)⟩⟩
def OX(ns:List Int):My.iB (λi=>(gf ns).getD i 0) 0=(ns.length:Int):=rfl
def RJ(h:ns.length<=10):dN (ii 24 (My.iB λi=>(gf ns).getD i 0)) (some 1) (some (1+(ns.length:Int)))=ns.map V.int:=by
 have e:=Ee (n:=24) (f:=λj=>V.int (My.iB (λi=>(gf ns).getD i 0) j)) (lo:=1) (hi:=1+ns.length) (by lia) (by lia);rw[show(((1+ns.length:Nat)):Int)=1+(ns.length:Int) by lia]at e;refine Eq.trans e ?_;rw[NF (L:=ns) (n:=1+ns.length-1) (by lia)];refine cR λi hi=>?_;unfold My.iB;rw[aL (by lia)]
 congr 1
 show(gf ns).getD (1+i) 0=ns.getD i 0;unfold gf;rw[jH,lr,lr,zX (by simp),wO (by simp;lia)];simp
inductive wG(K:Ni)(vs:List V)(H:Hp)(Q:VK)(_:XK):Prop
 |mk (p l:JY) (ns:List Int) (_:vs=[.ref p,.ref l]) (_:aX K H p (ns.map V.int)) (_:p≠l) (_:Qf ns) (_:qW H l) (_:∀(r:JY)(H':Hp),fI l H H'->H r=none->H' r=some (.lst (ns.map V.int))->Q (.ref r) H')
def jf:aM ["piece","left","cell","found"] ["piece","left"] (aH pY):=ac
def Fx(F:aY K mg "_law_sent" pY)(T:Txt K mg t)(Bk:ã P w K mg à 3 "sealed" ["signs"] (DH K))(wH:ã P w K mg à 8 "mended" ["cell"] (DI K))(ag:ã P w K mg à 1 "_law_next" ["left","base"] (fR K))(jg:ã P w K mg à 2 "_law_turns" ["left","many"] (tG K))(iX:ã P w K mg à 1 "_law_turned" ["cell","turns"] (qX K)):ã P w K mg à 9 "_law_sent" ["piece","left"] (wG K):=by
 refine F.eY jf λf bM A á s H vs Q E hr h=>?_;obtain⟨p,l,ns,rfl,hp,npl,ok,hl,q⟩:=h;refine⟨_,aC (aV 2 jf (aO Bk hr (aA (aT (dI K) (aT (dI K) (bJ (aA (cv K T.cS (pv 0)) aD)) (pv 0)) (j7 (Nc:=["k","piece"]) (ix:=[none,some 0]) jf (cq (by rfl) T.cw (aA (aT o4 aF (cv K T.cS (pv 0))) aD)) (λC fp s H=>⟨bN,(aT cO (aT bT (aT dM aF (pv 0)) (cv K T.cS (pv 1))) aF)⟩))) aD)))
  (aC (ax (bI y9 (aO wH hr (aA (aO iX hr (aA (pv 2) (aA (aO jg hr (aA (pv 1) (aA (aT bT aF (aO ag hr (aA (pv 1) (aA aF aD)))) aD))) aD))) aD)) eC)
   (aE (aQ eC))
   (aW))
  (aC (aV 3 jf (aO wH hr (aA (aO iX hr (aA (pv 2) (aA (aO jg hr (aA (pv 1) (aA (aO ag hr (aA (pv 1) (aA aF aD))) aD))) aD))) aD)))
  (aC (ax (bI (SR K (dU hr)) (pv 3) (pv 2))
   (aE (aQ eC))
   (aW))
  (aE (aQ (cP (cU K) (pv 3) (bj aF) (bj (aT bT aF (ah (aZ K) (pv 3) aF))))))))),?_⟩
 have hsz:=bZ;have o1:=ok.1;refine⟨_,rfl,p,_,rfl,.inl hp,ò,λa1 Tq=>?_⟩;rw[aJ];have s1:=(aI.refl H).new (o:=.lst [.int (ns.length:Nat)]) Tq;have e1:(ü H a1 (.lst [.int (ns.length:Nat)])) a1=some (.lst ([(ns.length:Int)].map V.int)):=aB;generalize ü H a1 (.lst [.int (ns.length:Nat)])=H1 at s1 e1 ⊢;refine⟨_,rfl,a1,p,_,_,rfl,rfl,aX.of e1,s1.seq hp,by rw[aJ,aJ];show 1+_<=_;lia,λa2 Tr=>?_⟩;rw[<-bD];obtain⟨H2,ja,s2,e2⟩:=nL (aI.refl H1) (o:=.lst (([(ns.length:Int)]++ns).map V.int)) Tr;rw[ja];have S2:=s1.trans s2;refine⟨_,rfl,p,_,rfl,.inl (S2.seq hp),_,_,rfl,rfl,?_⟩;rw[aJ];refine⟨_,rfl,by lia,by lia,λD hD=>?_⟩;refine j3 (lo:=0) (n:=((17:Int)-(ns.length:Nat)).toNat) (λi Z H'=>∃v:Option V,Z=[v,some (.ref p)]/\aI H2 H'/\H' D=some (.lst (ii i (VS ns.length)))) ⟨none,rfl,(aI.refl _).new hD,aB⟩ ?_ ?_
 .rintro i Z H' N hN hi ⟨v,rfl,s3,e3⟩;refine cA ?_;refine⟨_,rfl,_,_,rfl,rfl,.inl ⟨by decide,by decide⟩,_,rfl,p,_,rfl,.inl (s3.seq (S2.seq hp)),_,_,rfl,rfl,_,_,rfl,rfl,(by show(0:Int)<97;decide),?_⟩;refine⟨_,e3,by rw[aU];lia,hN _ _ ⟨_,rfl,s3.put hD,jU ?_⟩⟩;rw[aJ,Int.zero_add];rfl
 rintro Z H3 ⟨v,rfl,s3,e3⟩;have S3:=S2.trans s3;rw[show((17:Int)-(ns.length:Nat)).toNat=17-ns.length by lia,<-m9]at e3;refine⟨a2,D,_,_,rfl,rfl,aX.of (s3 _ _ e2),aX.of e3,by rw[aJ,aJ,bV,aJ,wU];show 1+_+_<=_;lia,λa3 ha3=>?_⟩;rw[<-bD];have s4:=(aI.refl H3).new (o:=.lst ((gf ns).map V.int)) ha3;have e4:(ü H3 a3 (.lst ((gf ns).map V.int))) a3=some (.lst (ii 18 λi=>(gf ns).getD i 0)):=by rw[aB,NF (DO o1.2)]
 refine⟨a3,λi=>(gf ns).getD i 0,rfl,aX.of e4,Bj ok,λc H5 hc s5 e5=>?_⟩;have S5:aI H H5:=S3.trans (s4.trans s5);have bF:∀i,i<24->0<=My.iB (λi=>(gf ns).getD i 0) i/\My.iB (λi=>(gf ns).getD i 0) i<97:=λi _=>My.TV (Bj ok).b i;have sF:=My.E6 λi=>(gf ns).getD i 0;have z0:=OX ns;have cF:=RJ (ns:=ns) o1.2;generalize My.iB (λi=>(gf ns).getD i 0)=G at bF sF z0 cF e5;clear e4 s4;have Bz:fI l H H5:=fI.of hl S5;have Z5:c≠l:=fI.Ln (hl.same (S3.trans ((aI.refl H3).new ha3))) hc;refine⟨_,rfl,_,rfl,_,rfl,l,2,rfl,Bz.b,by decide,by decide,λd H6 d0 d1 s6=>?_⟩;obtain⟨m,hm⟩:∃m:Nat,3+d=(m:Int):=⟨(3+d).toNat,by lia⟩;refine⟨_,_,rfl,rfl,?_⟩;refine⟨l,m,by rw[<-hm];rfl,s6.b,by lia,λr7 H7 ts s7 t7 ta tok tl=>?_⟩;have MO:=Bz.trans (s6.trans s7);have e7:=(s6.trans s7).m _ _ Z5 e5;have tb:∀t∈ts,t.2.1<24:=λt ht=>(tok.b t.2 (ao.mpr ⟨t,ht,rfl⟩)).1;refine⟨c,r7,G,ts,rfl,aX.of e7,t7,ta,tb,λp8 H8 s8 hp8 e8=>?_⟩;refine⟨p8,_,rfl,aX.of e8,⟨XN _ _ bF⟩,λg _ _ mg=>?_,λ_ H9 s9=>?_⟩
 .have:=(ND bF sF tok (by rw[aJ];lia) mg).2;rw[aJ]at this;lia
 refine⟨rfl,_,rfl,?_⟩;refine ij rfl ?_;have UW:=(MO.same s8).same s9;have e9:=s9 _ _ (s8 _ _ e7);clear ta t7 tok e8 tb tl;refine⟨_,rfl,_,rfl,_,rfl,l,3,rfl,UW.b,by decide,by decide,λd H6 d0 d1 s6=>?_⟩;obtain⟨m,hm⟩:∃m:Nat,d=(m:Int):=⟨d.toNat,by lia⟩;refine⟨l,m,by rw[<-hm];rfl,s6.b,by lia,λr7 H7 ts s7 t7 ta tok tl=>?_⟩;have MO:=UW.trans (s6.trans s7);have e7:=(s6.trans s7).m _ _ Z5 e9;have tb:∀t∈ts,t.2.1<24:=λt ht=>(tok.b t.2 (ao.mpr ⟨t,ht,rfl⟩)).1;refine⟨c,r7,G,ts,rfl,aX.of e7,t7,ta,tb,λp8 H8 s8 hp8 e8=>?_⟩;refine⟨p8,_,rfl,aX.of e8,⟨XN _ _ bF⟩,λg p9 H9 mg hp9 s9 e9=>?_,λno=>absurd (UT bF sF tok (by rw[aJ];lia)) (no G)⟩;have eg:=(ND bF sF tok (by rw[aJ];lia) mg).1;rw[show ii 24 g=ii 24 G from cR λi hi=>by rw[eg i hi]]at e9;have ec:=s9 _ _ (s8 _ _ e7);refine⟨_,rfl,_,rfl,p9,c,(List.range 24).map G,(List.range 24).map G,rfl,rfl,aX.of (by rw[m9];exact e9),aX.of (by rw[m9];exact ec),_,rfl,?_⟩;refine ij rfl ?_;have a0:rH (ii 24 G) 0=some (.int (ns.length:Nat)):=by rw[dO (by decide) (by decide)];show some (V.int (G 0))=_;rw[z0]
 refine⟨_,rfl,_,rfl,_,rfl,p9,_,_,_,rfl,rfl,aX.of e9,a0,_,_,rfl,rfl,_,rfl,p9,_,rfl,aX.of e9,λr wN=>?_⟩;rw[cF];have Xv:=(MO.same s8).same s9;exact q r _ (Xv.same ((aI.refl H9).new wN)) (Xv.free wN) aB
def fI.mods{l:JY}(st:fI l H H')(m:cB S H' MW)(h:∀y∈S,H y=none/\y≠l):fI l H MW:=⟨λb o n e=>m _ _ (λz=>by have:=(h b z).1;rw[e]at this;cases this) (st.m b o n e),st.a,by obtain⟨i,j,k,e⟩:=st.b;exact⟨i,j,k,m _ _ (λz=>(h l z).2 rfl) e⟩⟩
def fI.up{l:JY}(st:fI l H H')(h:l∈S):cB S H H':=λb o n e=>st.m b o (λz=>n (by rw[z];exact h)) e
def cB.VT(m:cB S H H')(h:∀a∈S,∀ys,¬Rd H a (.tup ys)):ù H H':=λa xs r=>by
 have n:a∉S:=λz=>h a z xs r;rcases r with e|⟨u,e⟩
 .exact .inl (m _ _ n e)
 exact .inr ⟨u,m _ _ n e⟩
abbrev Lz:=List (JY×CD)
def uh(z:JY×CD):V:=.ref z.1
def xp(K:Ni)(H:Hp)(zs:Lz):Prop:=∀z∈zs,vf K H z.1 z.2/\Ia z.2
def xp.kept{K:Ni}{H H':Hp}{zs:Lz}(h:xp K H zs)(k:ù H H'):xp K H' zs:=λz hz=>⟨(h z hz).1.kept k,(h z hz).2⟩
def xp.snoc{zs:Lz}{z:JY×CD}(h:xp K H zs)(hz:vf K H z.1 z.2/\Ia z.2):xp K H (zs++[z]):=λy hy=>by
 rcases cH.mp hy with h1|h1
 .exact h y h1
 rw[bX.mp h1];exact hz
def UX{a d:JY}{xs:List (Str×V)}(h:H a=some (.ins C d xs)):∀ys,¬Rd H a (.tup ys):=λys e=>by rcases e with e|⟨u,e⟩<;>(rw[h]at e;cases e)
inductive wI(K:Ni)(vs:List V)(H:Hp)(Q:VK)(_:XK):Prop
 |mk (a l:JY) (zs:Lz) (_:vs=[.ref a,.ref l]) (_:aX K H a (zs.map uh)) (_:a≠l) (_:xp K H zs) (_:zs.length<=8) (_:qW H l) (_:∀(r:JY)(H':Hp)(ys:Lz),fI l H H'->H' r=some (.lst (ys.map uh))->xp K H' ys->ys.map (·.2)=zs.map (·.2)->Q (.ref r) H')
def c4:aM ["letters","left","joiner","came","letter","pieces","k","piece","signs"] ["letters","left"] (aH pZ):=ac
def Fy{fdi fdt:Jc}(F:aY K mg "_law_come" pZ)(T:Txt K mg t)(qY:ã P w K mg à 1 "pieces_of" ["signs"] (vh K))(kP:ã P w K mg à 2 "letter_signs" ["letter"] (oS K))(qZ:ã P w K mg à 4 "letter_of" ["signs"] (vg K))(qa:ã P w K mg à 9 "_law_sent" ["piece","left"] (wG K))(lj:cn P w K mg à (oV P w) 1 t.iy fdi ["self"] (qH t.Joiner))(lp:ú K fdi ["self"] [])(Lp:cn P w K mg à (oV P w) 3 t.A3 fdt ["self","piece"] (Mv K t.Joiner))(Lq:ú K fdt ["self","piece"] []):ã P w K mg à 10 "_law_come" ["letters","left"] (wI K):=by
 refine F.eY c4 λf bM A á s H vs Q E hr h=>?_;obtain⟨a,l,zs,rfl,ha,nal,hz,z8,hl,q⟩:=h;refine⟨_,aC (aV 2 c4 (u3 T.Th (lj.mono (by decide)) hr (by rfl) T.Tg lp .nil eG))
  (aC (aV 3 c4 (bJ aD))
  (aC (cu (bH K (pv 0)) (bu 4 c4) (aC (aV 5 c4 (aO qY hr (aA (aO kP hr (aA (pv 4) aD)) aD)))
   (aE (tu oh rfl (cq (by rfl) T.cw (aA (cv K T.cS (pv 5)) aD)) (bu 6 c4)
    (aC (aV 7 c4 (aO qa hr (aA (ah (aZ K) (pv 5) (pv 6)) (aA (pv 1) aD))))
    (aC (ax (bI ER (pv 7) eC)
     (aE (aQ eC))
     (aW))
    (aC (aV 8 c4 (mr (pv 2) T.vX T.Ti (Lp.mono (by decide)) hr Lq .nil eG (aA (pv 7) aD)))
    (aC (ax (bI rZ (dY ER (pv 8) eC (iF _)) (dY kZ (aT bT (pv 6) aF) (cv K T.cS (pv 5)) (iF _)))
     (aE (aQ eC))
     (aW))
    (aE (ax (bI y9 (pv 8) eC)
     (aE (bA (ff K oa xt xr fK (pv 3) (aA (aO qZ hr (aA (pv 8) aD)) aD))))
     (aW)))))))))))
  (aE (aQ (pv 3))))),?_⟩
 have hsz:=bZ;intro x dx nx ndx ndd;refine⟨x,dx,rfl,aB,λj0 H0 hj0 m0 jn0=>⟨rfl,?_⟩⟩;have sA:aI H (ü (ü H dx (.own x)) x (.ins t.Joiner dx [])):=(aI.refl H).new ndx |>.put nx;have sH:aI H H0:=λb o e=>m0 b o (λz=>by rw[bX.mp z,nx]at e;cases e) (sA b o e);have nj0:H j0=none:=sA.free hj0;refine⟨ñ,λca hca=>?_⟩;have nca:H ca=none:=sH.free hca;have s1:aI H (ü H0 ca (.lst [])):=sH.new hca;have e1:=@aB H0 ca (.lst []);have jn1:qG t.Joiner (ü H0 ca (.lst [])) x j0 []:=jn0.same ((aI.refl H0).new hca);generalize ü H0 ca (.lst [])=H1 at s1 e1 jn1 ⊢;have Zp:x≠l:=fI.Ln hl nx;have Z5:ca≠l:=fI.Ln hl nca
 let I:Nat->_->Hp->Prop:=λi Z H2=>∃(jl:JY)(ys:Lz)(v4 v5 v6 v7 v8:Option V),Z=[some (.ref a),some (.ref l),some (.ref x),some (.ref ca),v4,v5,v6,v7,v8]/\fI l H H2/\H jl=none/\qG t.Joiner H2 x jl []/\H2 ca=some (.lst (ys.map uh))/\jl≠ca/\xp K H2 ys/\ys.map (·.2)=(zs.take i).map (·.2)
 refine⟨_,rfl,a,rfl,⟨_,s1.seq ha⟩,dq (K:=K) (a:=a) (xs:=zs.map uh) I ⟨j0,[],none,none,none,none,none,rfl,fI.of hl s1,nj0,jn1,e1,aP jn0.2 hca,λz hz=>absurd hz bE,rfl⟩ (λi Z H' _ h_=>by obtain⟨_,_,_,_,_,_,_,_,st,_⟩:=h_;exact st.seq ha nal) ?_ ?_⟩
 .rintro i y Z H2 hi ⟨jl,ys,v4,v5,v6,v7,v8,rfl,GK,njl,jn2,e2,njc,yz,ye⟩;rw[bh]at hi;obtain⟨z,ez,rfl⟩:=gk.mp hi;have il:i<zs.length:=(bq.mp ez).1;have yl:ys.length=i:=by have:=az List.length ye;rw[aJ,aJ,cc]at this;lia
  obtain⟨TK,zQ⟩:=hz z (bL ez);refine⟨_,rfl,z.1,z.2,rfl,TK.kept GK.kept,zQ,λp3 H3 np3 s3 e3=>?_⟩;generalize hL:z.2=L at zQ e3 ⊢;have nsg:=Mu zQ;have nl:=zM L;have w1:=zQ.way.1.1;have w2:=zQ.way.1.2;have w3:=zQ.ab.1;have w4:=zQ.bd.1;refine⟨p3,LX L,rfl,aX.of e3,by lia,λpa as H4 npa nas ndp s4 e4 r4=>?_⟩;have hld:=Qd zQ;obtain⟨ns,Yj⟩:∃ns,ns=LX L:=⟨_,rfl⟩;rw[<-Yj]at r4 nsg nl;have N1:1<=BJ ns.length:=by unfold BJ;lia
  have SG:fI l H H4:=(GK.same s3).same s4;have jn3:qG t.Joiner H3 x jl []:=jn2.same s3;have jn4:qG t.Joiner H4 x jl []:=jn3.same s4;have e24:H4 ca=some (.lst (ys.map uh)):=s4 _ _ (s3 _ _ e2);have Z6:jl≠l:=fI.Ln hl njl;have lf3:=(GK.same s3).b;have inS:∀{b:JY},H3 b=none->b∉[l,x,ca,jl]:=λ{b} hb hm=>by
   simp only[au,bE,dJ]at hm;rcases hm with rfl|rfl|rfl|rfl
   .obtain⟨_,_,_,e⟩:=lf3;rw[e]at hb;cases hb
   .obtain⟨⟨_,e⟩,_⟩:=jn3;rw[e]at hb;cases hb
   .rw[s3 _ _ e2]at hb;cases hb
   rw[jn3.2]at hb;cases hb
  have pS:=inS npa;have yz4:=(yz.kept (ù.same s3)).kept (ù.same s4);have Z7:as.length=BJ ns.length:=by rw[r4.1,qy]
  refine⟨_,rfl,pa,_,rfl,.inl (aX.of e4),_,rfl,by rw[aJ,Z7];unfold BJ;lia,by rw[aJ,Z7];unfold BJ;lia,?_⟩
  let J:Nat->_->Hp->Prop:=λk Z H5=>∃(v6 v7 v8:Option V),Z=[some (.ref a),some (.ref l),some (.ref x),some (.ref ca),some (.ref z.1),some (.ref pa),v6,v7,v8]/\fI l H H5/\cB [l,x,ca,jl] H4 H5/\((k<BJ ns.length/\qG t.Joiner H5 x jl (ns.take (9*k))/\H5 ca=some (.lst (ys.map uh))/\xp K H5 ys)\/(k=BJ ns.length/\∃VU r,qG t.Joiner H5 x VU []/\H VU=none/\VU≠ca/\H5 ca=some (.lst ((ys++[(r,L)]).map uh))/\xp K H5 (ys++[(r,L)])))
  rw[aJ,Z7];refine gY (lo:=0) (n:=((BJ ns.length:Nat):Int).toNat) J ⟨v6,v7,v8,rfl,SG,cB.refl,.inl ⟨by lia,by rw[Nat.mul_zero,zm];exact jn4,e24,yz4⟩⟩ ?_ ?_
  .rintro k Z H5 hk ⟨v6,v7,v8,rfl,Bz,m5,hc⟩;rcases hc with⟨hkN,jn5,e5,yz5⟩|⟨hkN,_⟩
   case inr=>lia
   obtain⟨ak,hak,eak⟩:=r4.get (i:=k) (by rw[qy];lia);have eak:=r4.2 k ak _ hak (Ig (by lia));have nak:=nas ak (bL hak);have akS:=inS nak;have ek:(0+(k:Nat):Int)=(k:Nat):=(by lia);have pc:=T9 (i:=k) nsg;have aDh:=m5 _ _ pS e4;have aDi:=m5 _ _ akS eak;refine⟨_,rfl,_,rfl,pa,_,_,_,rfl,rfl,aX.of aDh,W5 hak ek,_,rfl,ak,l,qI ns k,rfl,aX.of aDi,(λz=>akS (by rw[z];simp)),pc,Bz.b,λr6 H6 s6 nr6 e6=>?_⟩;refine⟨_,rfl,rfl,_,rfl,eT (λe=>by cases e) ?_⟩;have JV:=Bz.trans s6;have m6:cB [l,x,ca,jl] H4 H6:=m5.trans (s6.up (by simp));have jn6:qG t.Joiner H6 x jl (ns.take (9*k)):=jn5.mods (S:=[l]) (s6.up (by simp)) (by simpa using Zp) (by simpa using Z6);have ec6:=s6.m _ _ Z5 e5;have yz6:=yz5.kept s6.kept;have nrj:r6≠jl:=λz=>(by rw[z,jn5.2]at nr6;cases nr6);have nrc:r6≠ca:=λz=>(by rw[z,e5]at nr6;cases nr6);obtain⟨dx6,hx6⟩:=jn6.1;have nxc:x≠ca:=xy hx6 ec6 (by intro z;cases z);have hxS:∀y∈[x,jl],H y=none/\y≠l:=λy hy=>by
    simp only[au,bE,dJ]at hy;rcases hy with rfl|rfl
    .exact⟨nx,Zp⟩
    exact⟨njl,Z6⟩
   refine⟨_,rfl,x,dx6,_,rfl,hx6,rfl,_,rfl,x,jl,r6,ns.take (9*k),qI ns k,rfl,jn6,aX.of e6,nrj,pc,by rw[cc];lia,λhd H7 m7 jn7=>?_,λhd VU H7 XO m7 e7 jn7=>?_⟩
   .have hgo:k+1<BJ ns.length:=by apply kU;intro z;rw[Qh z]at hd;exact absurd (bR hd) (by decide)
    have m7':cB [x,jl] H6 H7:=m7.up λy hy=>(by rw[bX.mp hy];simp);have MO:=JV.mods m7' hxS;have M7:cB [l,x,ca,jl] H4 H7:=m6.trans (m7.up λy hy=>by rw[bX.mp hy];simp);have ec7:=m7 _ _ (by simpa using bS njc) ec6;have yz7:=yz6.kept (cB.VT m7 λb hb=>by rw[bX.mp hb];exact oH jn6.2);have XQ:=M7 _ _ pS e4;refine⟨_,rfl,rfl,_,rfl,_,_,rfl,rfl,_,rfl,pa,_,rfl,.inl (aX.of XQ),_,_,rfl,rfl,rfl,_,rfl,?_⟩;refine ij (az V.bl ((bw rfl).trans (bw (by rw[aJ,Z7];lia)).symm)) ?_;refine⟨_,rfl,rfl,_,rfl,ij rfl ?_⟩;rw[DJ]at jn7;exact⟨_,_,_,rfl,MO,M7,.inl ⟨hgo,jn7,ec7,yz7⟩⟩
   have aDl:¬k+1<BJ ns.length:=λz=>hd (UA z);have MO:=JV.mods m7 hxS;have M7:cB [l,x,ca,jl] H4 H7:=m6.trans (m7.up λy hy=>by simp only[au,bE,dJ]at hy ⊢;rcases hy with rfl|rfl<;>simp);have ec7:=m7 _ _ (by simp only[au,bE,dJ,not_or];exact⟨bS nxc,bS njc⟩) ec6;have yz7:=yz6.kept (cB.VT m7 λb hb=>by
    simp only[au,bE,dJ]at hb;rcases hb with rfl|rfl
    .exact UX hx6
    exact oH jn6.2)
   have XQ:=M7 _ _ pS e4;refine⟨_,rfl,rfl,_,rfl,_,_,rfl,rfl,_,rfl,pa,_,rfl,.inl (aX.of XQ),_,_,rfl,rfl,rfl,_,rfl,?_⟩;refine ij (az V.bl ((cL (λe=>by cases e)).trans (cL (by rw[aJ,Z7];lia)).symm)) ?_;refine⟨_,rfl,rfl,_,rfl,Gj (λe=>by cases e) ?_⟩;rw[DJ,zV (by unfold BJ at aDl hkN;lia),Yj]at e7;refine⟨_,rfl,.inl ⟨rfl,_,aX.of ec7⟩,_,rfl,jl,L,rfl,aX.of e7,zQ,λr8 H8 s8 lt8=>?_⟩;have ec8:=s8 _ _ ec7;have kp:=mV (o:=.lst (ys.map uh++[V.ref r8])) (oH ec8);refine⟨ca,_,_,rfl,rfl,ec8,by rw[aJ];lia,?_⟩;have UY:VU≠ca:=λz=>(by rw[z,ec6]at XO;cases XO);have jn8:=jn7.same s8;have mc:cB [ca] H8 (ü H8 ca (.lst (ys.map uh++[V.ref r8]))):=cB.refl.upd (.inl bp);refine⟨_,_,_,rfl,(MO.same s8).put nca Z5,(M7.trans (cB.same s8)).trans (mc.up λy hy=>by rw[bX.mp hy];simp),.inr ⟨by lia,VU,r8,jn8.mods mc (by simpa using nxc) (by simpa using UY),JV.free XO,UY,by rw[aB,bD];rfl,((yz7.kept (ù.same s8)).kept kp).snoc ⟨lt8.kept kp,zQ⟩⟩⟩
  rintro Z H5 ⟨v6,v7,v8,rfl,Bz,m5,hc⟩;rcases hc with⟨hkN,_⟩|⟨hkN,VU,r,jn5,aDm,UY,e5,yz5⟩
  .lia
  refine⟨VU,ys++[(r,L)],_,_,_,_,_,rfl,Bz,aDm,jn5,e5,UY,yz5,?_⟩;rw[bD,ye,þ ez,bD];rw[<-hL];rfl
 rintro Z H2 ⟨jl,ys,v4,v5,v6,v7,v8,rfl,GK,njl,jn2,e2,njc,yz,ye⟩;rw[aJ,eV]at ye;exact⟨_,rfl,q ca H2 ys GK e2 yz ye⟩
def UZ(a b:Int):cZ (.int a) (.int b)=decide (a<b):=by simp only[cZ]
def aDn(ns:List Int):yh (ns.map PyData.int):=zN (κ:=Int) (key:=id) (λa b h=>by lia) (λa b c h1 h2=>by lia) UZ (λs t=>by simp[B3]) (.ints λd hd=>by obtain⟨w,_,rfl⟩:=ao.mp hd;exact⟨_,rfl⟩)
def Ot:List (List Nat):=[[97],[107],[122,122],[97,98,99,100]]
def Ua:[V.str "a",.str "k",.str "zz",.str "abcd"]=Ot.map qz:=by decide +kernel
def XR:∀n∈Ot,LY n:=by decide
def Ub:∀i<4,∀j<4,Ot.getD i []=Ot.getD j []->i=j:=by decide
def NG:∀i<4,Ot[i]?=some (Ot.getD i [])/\Ot.getD i []∈Ot:=by decide
def wJ(K:Ni):Sp:=λvs H Q _=>∃l:JY,vs=[.ref l]/\qW H l/\∀(r:JY)(H':Hp)(N:Nw),fI l H H'->OW N->Fd K H' (.ref r) N->Q (.ref r) H'
def dg:aM ["left","house","near","other","births","names","number"] ["left"] (aH pX):=ac
def Fz(F:aY K mg "_law_news" pX)(T:Txt K mg t)(ag:ã P w K mg à 1 "_law_next" ["left","base"] (fR K))(dE:ã P w K mg à 2 "_law_unlike" ["left","most","size"] (kN K))(gd:ã P w K mg à 5 "made_news" ["house","number","near","names"] (n9 K)):ã P w K mg à 6 "_law_news" ["left"] (wJ K):=by
 refine F.eY dg λf bM A á s H vs Q E hr h=>?_;obtain⟨l,rfl,hl,q⟩:=h;refine⟨_,aC (aV 1 dg (aO ag hr (aA (pv 0) (aA aF aD))))
  (aC (aV 2 dg (bJ aD))
  (aC (cu (bH K (bW (kf K (dU hr)) (by rfl) T.hJ me (aA (aO dE hr (aA (pv 0) (aA (aO ag hr (aA (pv 0) (aA aF aD))) (aA aF aD)))) aD))) (bu 3 dg) (aE (ax (bI rZ (pv 3) (pv 1))
    (aC (aV 4 dg (bJ (aA (aT bT aF (aO ag hr (aA (pv 0) (aA aF aD)))) (aA (aT bT aF (aO ag hr (aA (pv 0) (aA aF aD)))) aD))))
    (aE (bA (ff K oa xt xr fK (pv 2) (aA (c5 (aA (pv 3) (aA (aT bT aF (aT cO (aT bT (aT bT (aT dM (pv 1) (pv 3)) (pv 1)) (pv 3)) aF)) (aA (av (cW K) (by rfl) T.gG i6 (aA (pv 4) aD)) aD)))) aD)))))
    (aW))))
  (aC (yI 5 (Nc:=["k"]) (ix:=[none]) dg (bH K (aO dE hr (aA (pv 0) (aA (aO ag hr (aA (pv 0) (aA aF aD))) (aA aF aD))))) (λC fp s H=>⟨bN,(ah (aZ K) (bJ (aA cE (aA cE (aA cE (aA cE aD))))) (pv 0))⟩))
  (aC (aV 6 dg (aT bT (pv 1) (aT dM aF (aO ag hr (aA (pv 0) (aA aF aD))))))
  (aE (aQ (aO gd hr (aA (pv 1) (aA (pv 6) (aA (pv 2) (aA (pv 5) aD))))))))))),?_⟩
 have hsz:=bZ;refine⟨_,rfl,l,6,rfl,hl,by decide,by decide,λh H1 h0 h1 s1=>?_⟩;refine⟨ñ,λnr hnr=>?_⟩;have Xw:nr≠l:=fI.Ln s1.b hnr;have nnr:H nr=none:=s1.free hnr;have GK:fI l H (ü H1 nr (.lst [])):=s1.same ((aI.refl H1).new hnr);have e2:=@aB H1 nr (.lst []);generalize ü H1 nr (.lst [])=H2 at GK e2 ⊢;refine⟨_,rfl,_,rfl,l,6,rfl,GK.b,by decide,by decide,λm H3 m0 m1 s3=>?_⟩;refine⟨l,m,6,rfl,s3.b,m0,by lia,by decide,by decide,λr4 H4 os s4 nr4 e4 nd bd ol _=>?_⟩;refine⟨true,r4,os.map λn=>(V.int n,PyData.int n),rfl,by rw[bB];exact aX.of e4,by rw[aJ];lia,λy hy=>?_,by have:=aDn os;rw[bB];exact this,λys q5 hp _ Z8=>?_⟩
 .obtain⟨n,_,rfl⟩:=ao.mp hy;exact .int n
 obtain⟨us,hu,rfl⟩:=perm_back (λn=>(V.int n,PyData.int n)) hp os rfl;have SG:=(GK.trans s3).trans s4;have nq:q5≠l:=fI.Ln s4.b Z8;have Bz:fI l H (ü H4 q5 (.lst ((us.map λn=>(V.int n,PyData.int n)).map (·.1)))):=SG.same ((aI.refl H4).new Z8);have e5:(ü H4 q5 (.lst ((us.map λn=>(V.int n,PyData.int n)).map (·.1)))) q5=some (.lst (us.map V.int)):=by rw[aB,bB];rfl
 have e25:(ü H4 q5 (.lst ((us.map λn=>(V.int n,PyData.int n)).map (·.1)))) nr=some (.lst []):=by have:=(s3.trans s4).m _ _ Xw e2;rw[aN (aP this Z8)];exact this
 have nqr:q5≠nr:=λz=>by rw[z,(s3.trans s4).m _ _ Xw e2]at Z8;cases Z8
 generalize ü H4 q5 (.lst ((us.map λn=>(V.int n,PyData.int n)).map (·.1)))=H5 at Bz e5 e25 ⊢;have und:us.Nodup:=hu.nodup_iff.mpr nd;have ub:∀n∈us,0<=n/\n<6:=λn hn=>bd n (hu.mem_iff.mp hn);have ul:us.length<=5:=by rw[hu.length_eq];lia
 let I:Nat->_->Hp->Prop:=λi Z H6=>∃(zs:List (V×Wr))(v3 v4:Option V),Z=[some (.ref l),some (.int h),some (.ref nr),v3,v4,none,none]/\fI l H H6/\H6 q5=some (.lst (us.map V.int))/\H6 nr=some (.lst (zs.map (·.1)))/\qJ K H6 zs/\(∀z∈zs,BS z.2/\z.2.o∈us.take i/\z.2.o≠h)/\(zs.map (·.2.o)).Nodup/\zs.length<=i
 refine⟨q5,rfl,⟨_,aX.of e5⟩,dq (K:=K) (a:=q5) (xs:=us.map V.int) I ⟨[],none,none,rfl,Bz,e5,e25,λz hz=>absurd hz bE,λz hz=>absurd hz bE,.nil,ae _⟩ (λi Z H' _ h_=>by obtain⟨_,_,_,_,_,e,_⟩:=h_;exact aX.of e) ?_ ?_⟩
 .rintro i y Z H6 hi ⟨zs,v3,v4,rfl,JV,eq6,e6,wz,zo,zd,zl⟩;obtain⟨o,ho,rfl⟩:=dH hi;have ob:=ub o (bL ho);have il:i<us.length:=(bq.mp ho).1;refine⟨_,rfl,_,rfl,rfl,_,rfl,?_⟩;by_cases c:o=h
  .refine ij (by rw[c]) ?_;exact⟨zs,_,_,rfl,JV,eq6,e6,wz,λz hz=>⟨(zo z hz).1,by rw[þ ho];exact tJ _ (zo z hz).2.1,(zo z hz).2.2⟩,zd,by lia⟩
  refine Gj (λe=>c (V.int.inj e)) ?_;refine⟨_,rfl,l,2,rfl,JV.b,by decide,by decide,λd1 H7 d10 d11 s7=>?_⟩;refine⟨_,_,rfl,rfl,_,rfl,l,2,rfl,s7.b,by decide,by decide,λd2 H8 d20 d21 s8=>?_⟩;refine⟨_,_,rfl,rfl,ó,λbl Om=>?_⟩;have VW:=s7.trans s8;obtain⟨H9,ja,s9,e9⟩:=nL (aI.refl H8) (o:=.lst [.int (1+d1),.int (1+d2)]) Om;rw[ja];have e69:=s9 _ _ (VW.m _ _ Xw e6);refine⟨_,rfl,.inl ⟨rfl,_,aX.of e69⟩,_,rfl,_,rfl,_,rfl,_,_,rfl,rfl,.inl ⟨by lia,by lia⟩,_,rfl,_,_,rfl,rfl,_,rfl,_,_,rfl,rfl,_,_,rfl,rfl,(by show(0:Int)<10;decide),_,_,rfl,rfl,_,rfl,bl,_,rfl,.inl ⟨aX.of e9,λtp OQ=>?_⟩⟩;have t1:=gn (h*o+h+o) (show(10:Int)≠0 by decide);have t2:=gQ (h*o+h+o) (show(0:Int)<10 by decide);generalize(h*o+h+o)%10=qt at t1 t2 ⊢;have GO:=(aI.refl H9).new (o:=.tup [.int (1+d1),.int (1+d2)]) OQ;have e10:bO K (ü H9 tp (.tup [.int (1+d1),.int (1+d2)])) tp [.int (1+d1),.int (1+d2)]:=bO.of aB;generalize ü H9 tp (.tup [.int (1+d1),.int (1+d2)])=PR at GO e10 ⊢;refine⟨ô,λwp hwp=>?_⟩;have WG:=(aI.refl PR).new (o:=.tup [.int o,.int (1+qt),.ref tp]) hwp;have w11:GR K (ü PR wp (.tup [.int o,.int (1+qt),.ref tp])) (.ref wp) ⟨o,1+qt,1+d1,1+d2⟩:=GR.mk (bO.of aB) (WG.tup e10);generalize ü PR wp (.tup [.int o,.int (1+qt),.ref tp])=H11 at WG w11 ⊢;have S:=s9.trans (GO.trans WG);have Z9:=(GO.trans WG) _ _ e69;have kp:=mV (o:=.lst (zs.map (·.1)++[V.ref wp])) (oH Z9);have aDq:fI l H H11:=(JV.trans VW).same S;refine⟨nr,_,_,rfl,rfl,Z9,by rw[aJ];lia,?_⟩;refine⟨zs++[(.ref wp,⟨o,1+qt,1+d1,1+d2⟩)],_,_,rfl,aDq.put nnr Xw,by rw[aN nqr];exact S _ _ (VW.m _ _ nq eq6),by rw[aB,bD];rfl,λz hz=>?_,λz hz=>?_,?_,by rw[bV];show _+1<=_;lia⟩
  .rcases cH.mp hz with h2|h2
   .exact(wz z h2).kept ((VW.kept.trans (ù.same S)).trans kp)
   rw[bX.mp h2];exact w11.kept kp
  .rcases cH.mp hz with h2|h2
   .exact⟨(zo z h2).1,by rw[þ ho];exact tJ _ (zo z h2).2.1,(zo z h2).2.2⟩
   rw[bX.mp h2];refine⟨⟨⟨ob.1,by show o<32;lia⟩,⟨by show 1<=1+qt;lia,by show 1+qt<=10;lia⟩,⟨by show 1<=1+d1;lia,by show 1+d1<=9000;lia⟩,⟨by show 1<=1+d2;lia,by show 1+d2<=9000;lia⟩⟩,by rw[þ ho];exact ls _ (bX.mpr rfl),c⟩
  rw[bD];refine uv.mpr ⟨zd,by simp,λa ha b hb=>?_⟩;obtain⟨z,hz,rfl⟩:=ao.mp ha;rw[bX.mp hb];intro e;have uk:=(zo z hz).2.1;rw[show z.2.o=o from e]at uk;obtain⟨j,hj⟩:=Js uk;have jl:j<i:=by have:=(bq.mp hj).1;rw[cc]at this;lia
  rw[aAn jl]at hj;have a1:=bq.mp hj;have a2:=bq.mp ho;exact(zS.mp und) j i a1.1 a2.1 jl (a1.2.trans a2.2.symm)
 rintro Z H6 ⟨zs,v3,v4,rfl,JV,eq6,e6,wz,zo,zd,zl⟩;rw[aJ]at zl;refine⟨_,rfl,_,rfl,l,4,rfl,JV.b,by decide,by decide,λm H7 m0 m1 s7=>?_⟩;refine⟨l,m,4,rfl,s7.b,m0,by lia,by decide,by decide,λr8 H8 ns s8 nr8 e8 nnd nbd nl _=>?_⟩;have VW:=s7.trans s8;have e68:=VW.m _ _ Xw e6;have wz8:=wz.kept VW.kept;have st8:=JV.trans VW;refine⟨r8,rfl,⟨_,aX.of e8⟩,λD hD=>?_⟩;refine iR (K:=K) (a:=r8) (xs:=ns.map V.int) (λi Z H'=>∃v:Option V,Z=[v]/\aI H8 H'/\H' D=some (.lst (((ns.take i).map λk=>Ot.getD k.toNat []).map qz))) ⟨none,rfl,(aI.refl _).new hD,aB⟩ (λi Z H' _ ⟨_,_,s,_⟩=>aX.of (s _ _ e8)) ?_ ?_
 .rintro i y Z H' N hN hi ⟨v,rfl,s9,e9⟩;obtain⟨k,hk,rfl⟩:=dH hi;have kb:=nbd k (bL hk);have il:i<ns.length:=(bq.mp hk).1;refine cA ?_;refine⟨zz4,λq1 hq1=>?_⟩;have at1:rH [V.str "a",.str "k",.str "zz",.str "abcd"] k=some (qz (Ot.getD k.toNat [])):=by rw[Ua,show k=((k.toNat:Nat):Int) by lia];exact jT (by rw[bh,dh,(NG k.toNat (by lia)).1];rfl)
  have nDq:D≠q1:=aP e9 hq1;refine⟨_,rfl,q1,_,_,_,rfl,rfl,aX.of aB,at1,?_⟩;refine⟨_,by rw[aN nDq];exact e9,by rw[aJ,aJ,cc];lia,hN _ _ ⟨_,rfl,(s9.new hq1).put hD,?_⟩⟩;rw[aB,þ hk,bD,bD];rfl
 rintro Z H9 ⟨v,rfl,s9,e9⟩;rw[aJ,eV]at e9;have UW:=st8.same s9;refine⟨_,rfl,_,rfl,l,4,rfl,UW.b,by decide,by decide,λd PR d0 d1 GO=>?_⟩;refine⟨_,_,rfl,rfl,.inl ⟨by decide,by decide⟩,_,_,rfl,rfl,?_⟩;have RK:D≠l:=fI.Ln s8.b hD;have okN:CJ ⟨h,h+6*d,zs.map (·.2),ns.map λk=>Ot.getD k.toNat []⟩:=by
  refine⟨⟨h0,by show h<32;lia⟩,⟨by show 0<=h+6*d;lia,by show h+6*d<=900000;lia⟩,⟨λw hw=>?_,by rw[aJ];lia,by rw[bB];exact zd,λhm=>?_⟩,by rw[aJ];lia,?_,λn hn=>?_⟩
  .obtain⟨z,hz,rfl⟩:=ao.mp hw;exact(zo z hz).1
  .rw[bB]at hm;obtain⟨z,hz,e⟩:=ao.mp hm;exact(zo z hz).2.2 e
  .unfold List.Nodup;rw[gm];refine List.Pairwise.imp_of_mem ?_ nnd;intro a b ha hb AX e;have h1:=nbd a ha;have h2:=nbd b hb;have:=Ub a.toNat (by lia) b.toNat (by lia) e;lia
  obtain⟨k,hk,rfl⟩:=ao.mp hn;have:=nbd k hk;exact XR _ (NG k.toNat (by lia)).2
 refine⟨_,rfl,_,rfl,_,rfl,_,rfl,true,true,nr,D,zs,⟨h,h+6*d,zs.map (·.2),ns.map λk=>Ot.getD k.toNat []⟩,rfl,aX.of (GO.m _ _ Xw (s9 _ _ e68)),(wz8.kept (ù.same s9)).kept GO.kept,rfl,aX.of (GO.m _ _ RK e9),okN,λr H11 WG d11=>?_⟩;obtain⟨M,cM,eM⟩:=XM okN;exact q r H11 M ((UW.trans GO).same WG) cM (cM.nat (by rw[eM];exact d11))
def kd7:List Str:=["news","part","had","ask","answer","news","news"]
def XS:∀i<7,∃k∈kS,kd7[i]?=some k:=by decide +kernel
def aAa{d:Int}(d0:0<=d)(d1:d<7):∃k∈kS,rH [V.str "news",.str "part",.str "had",.str "ask",.str "answer",.str "news",.str "news"] d=some (.str k):=by obtain⟨k,hk,e⟩:=XS d.toNat (by lia);refine⟨k,hk,?_⟩;rw[show d=((d.toNat:Nat):Int) by lia];exact jT (show(kd7.map V.str)[d.toNat]?=some (.str k) by rw[bh,e];rfl)
inductive qb(K:Ni)(vs:List V)(H:Hp)(Q:VK)(_:XK):Prop
 |mk (l:JY) (k:Int) (_:vs=[.ref l,.int k]) (_:qW H l) (_:0<=k) (_:k<=7) (_:∀(r:JY)(H':Hp)(L:CD),fI l H H'->vf K H' r L->Ia L->(L.kind="news"->∃N,OW N/\L.bd=nb N)->Q (.ref r) H')
def dS:aM ["left","number","way","kind","about","body"] ["left","number"] (aH lQ):=ac
def Bl(F:aY K mg "_law_letter" lQ)(T:Txt K mg t)(ag:ã P w K mg à 1 "_law_next" ["left","base"] (fR K))(dE:ã P w K mg à 2 "_law_unlike" ["left","most","size"] (kN K))(qc:ã P w K mg à 6 "_law_news" ["left"] (wJ K))(cz:ã P w K mg à 3 "news_body" ["news"] (jc K))(d8:ã P w K mg à 3 "made_letter" ["count","way","kind","about","body"] (kE K)):ã P w K mg à 7 "_law_letter" ["left","number"] (qb K):=by
 refine F.eY dS λf bM A á s H vs Q E hr h=>?_;obtain⟨l,k,rfl,hl,k0,k7,q⟩:=h;refine⟨_,aC (aV 2 dS (aO dE hr (aA (pv 0) (aA (aT bT aF (aO ag hr (aA (pv 0) (aA aF aD)))) (aA aF aD)))))
  (aC (aV 3 dS (ah (aZ K) (bJ (aA cE (aA cE (aA cE (aA cE (aA cE (aA cE (aA cE aD)))))))) (aO ag hr (aA (pv 0) (aA aF aD)))))
  (aC (yI 4 (Nc:=["k","left"]) (ix:=[none,some 0]) dS (cq (by rfl) T.cw (aA (aO ag hr (aA (pv 0) (aA aF aD))) aD)) (λC fp s H=>⟨bN,(aO ag hr (aA (pv 1) (aA aF aD)))⟩))
  (aC (yI 5 (Nc:=["k","left"]) (ix:=[none,some 0]) dS (cq (by rfl) T.cw (aA (aO ag hr (aA (pv 0) (aA (ah (aZ K) (bJ (aA aF (aA aF aD))) (aO ag hr (aA (pv 0) (aA aF aD)))) aD))) aD)) (λC fp s H=>⟨bN,(aO ag hr (aA (pv 1) (aA aF aD)))⟩))
  (aC (WL (ax (bI jN (pv 3) cE)
   (aE (aV 5 dS (aO cz hr (aA (aO qc hr (aA (pv 0) aD)) aD))))
   (aW)))
  (aE (aQ (aO d8 hr (aA (aT bT (aT dM (pv 1) aF) (aO ag hr (aA (pv 0) (aA aF aD)))) (aA (pv 2) (aA (pv 3) (aA (pv 4) (aA (pv 5) aD)))))))))))),?_⟩
 have hsz:=bZ;refine⟨_,rfl,_,rfl,l,6,rfl,hl,by decide,by decide,λd H1 d0 d1 s1=>?_⟩;refine⟨_,_,rfl,rfl,l,1+d,32,rfl,s1.b,by lia,by lia,by decide,by decide,λwr H2 ws s2 nwr e2 wnd wb wl w1=>?_⟩;have XT:wr≠l:=fI.Ln s1.b nwr;have GK:=s1.trans s2;refine⟨zz7,λkl hkl=>?_⟩;have nkl:kl≠l:=fI.Ln GK.b hkl;obtain⟨H3,ja,s3,e3⟩:=nL (aI.refl H2) (o:=.lst [V.str "news",.str "part",.str "had",.str "ask",.str "answer",.str "news",.str "news"]) hkl;rw[ja];have YI:=GK.same s3;refine⟨_,rfl,l,7,rfl,YI.b,by decide,by decide,λdk H4 dk0 dk1 s4=>?_⟩;obtain⟨kd,hkd,akd⟩:=aAa dk0 dk1;refine⟨kl,_,_,_,rfl,rfl,aX.of (s4.m _ _ nkl e3),akd,?_⟩;have SG:=YI.trans s4;have e24:=s4.m _ _ XT (s3 _ _ e2);refine⟨_,rfl,l,5,rfl,SG.b,by decide,by decide,λna H5 na0 na1 s5=>?_⟩;have Bz:=SG.trans s5;have e25:=s5.m _ _ XT e24;refine⟨na,rfl,by lia,by lia,λD hD=>?_⟩;have RK:D≠l:=fI.Ln Bz.b hD;refine j3 (lo:=0) (n:=na.toNat) (λi Z H'=>∃(v:Option V)(as:List Int),Z=[v,some (.ref l)]/\fI l H5 H'/\H' D=some (.lst (as.map V.int))/\as.length=i/\∀a∈as,T5 a) ⟨none,[],rfl,fI.of Bz.b ((aI.refl _).new hD),aB,rfl,λa ha=>absurd ha bE⟩ ?_ ?_
 .rintro i Z H' N hN hi ⟨v,as,rfl,s6,e6,al,ab⟩;refine cA ?_;refine⟨_,rfl,l,97,rfl,s6.b,by decide,by decide,λd H7 d0 d1 s7=>?_⟩;refine⟨_,s7.m _ _ RK e6,by rw[aJ];lia,hN _ _ ⟨_,as++[d],rfl,(s6.trans s7).put hD RK,by rw[aB,bD];rfl,by rw[bV,al];rfl,λa ha=>?_⟩⟩;rcases cH.mp ha with h|h
  .exact ab a h
  rw[bX.mp h];exact⟨d0,d1⟩
 rintro Z H6 ⟨v,as,rfl,s6,e6,al,ab⟩;have JV:=Bz.trans s6;have e26:=s6.m _ _ XT e25;refine⟨_,rfl,ó,λbl Om=>?_⟩;have nbl:bl≠l:=fI.Ln JV.b Om;obtain⟨H7,ja,s7,e7⟩:=nL (aI.refl H6) (o:=.lst [.int 7,.int 57]) Om;rw[ja];have MO:=JV.same s7;refine⟨_,rfl,l,2,rfl,MO.b,by decide,by decide,λdb H8 db0 db1 s8=>?_⟩;obtain⟨mb,amb,hmb⟩:∃v:Int,rH [V.int 7,.int 57] db=some (.int v)/\(v=7\/v=57):=by
  have:db=0\/db=1:=by lia
  rcases this with rfl|rfl
  .exact⟨7,rfl,.inl rfl⟩
  exact⟨57,rfl,.inr rfl⟩
 refine⟨bl,_,_,_,rfl,rfl,aX.of (s8.m _ _ nbl e7),amb,l,mb,rfl,s8.b,by lia,by lia,λnb2 H9 nb0 nb1 s9=>?_⟩;have s89:=s8.trans s9;have UW:=MO.trans s89;have e29:=s89.m _ _ XT (s7 _ _ e26);have e69:=s89.m _ _ RK (s7 _ _ e6);refine⟨nb2,rfl,by lia,by lia,λD2 Bx=>?_⟩;have XU:D2≠l:=fI.Ln UW.b Bx;refine j3 (lo:=0) (n:=nb2.toNat) (λi Z H'=>∃(v:Option V)(bs:List Int),Z=[v,some (.ref l)]/\fI l H9 H'/\H' D2=some (.lst (bs.map V.int))/\bs.length=i/\∀a∈bs,T5 a) ⟨none,[],rfl,fI.of UW.b ((aI.refl _).new Bx),aB,rfl,λa ha=>absurd ha bE⟩ ?_ ?_
 .rintro i Z H' N hN hi ⟨v,bs,rfl,s6,e6,al,ab⟩;refine cA ?_;refine⟨_,rfl,l,97,rfl,s6.b,by decide,by decide,λd H7 d0 d1 s7=>?_⟩;refine⟨_,s7.m _ _ XU e6,by rw[aJ];lia,hN _ _ ⟨_,bs++[d],rfl,(s6.trans s7).put Bx XU,by rw[aB,bD];rfl,by rw[bV,al];rfl,λa ha=>?_⟩⟩;rcases cH.mp ha with h|h
  .exact ab a h
  rw[bX.mp h];exact⟨d0,d1⟩
 rintro Z HA ⟨v,bs,rfl,sA,eA,bl2,bb⟩;have Xv:=UW.trans sA;have e2A:=sA.m _ _ XT e29;have e6A:=sA.m _ _ RK e69;refine⟨λZ' H'=>∃(b:Bool)(br:JY)(bs:List Int),Z'=[some (.ref l),some (.int k),some (.ref wr),some (.str kd),some (.ref D),some (.ref br)]/\fI l H H'/\H' wr=some (.lst (ws.map V.int))/\H' D=some (.lst (as.map V.int))/\oQ b K H' br (bs.map V.int)/\IZ bs 56/\(kd="news"->∃N,OW N/\bs=nb N)/\(b=true->br≠l),?_,?_⟩
 .refine⟨_,rfl,rfl,_,rfl,?_⟩;by_cases c:kd="news"
  .refine fe (by rw[c]) ?_;refine⟨_,rfl,l,rfl,Xv.b,λr HB N sB cN nN=>?_⟩;refine⟨.ref r,N,rfl,nN,cN,λrb HC sC tb=>?_⟩;have bl:=RD cN.ok;exact⟨false,rb,nb N,rfl,(Xv.trans sB).same sC,sC _ _ (sB.m _ _ XT e2A),sC _ _ (sB.m _ _ RK e6A),tb,⟨by lia,VQ cN.ok⟩,λ_=>⟨N,cN,rfl⟩,λz=>by cases z⟩
  refine eT (λe=>c (V.str.inj e)) ?_;exact⟨true,D2,bs,rfl,Xv,e2A,e6A,aX.of eA,⟨by lia,bb⟩,λz=>absurd z c,λ_=>XU⟩
 rintro Z HB ⟨b,br,bs,rfl,stB,e2B,e6B,hbr,okb,hN,nbr⟩;refine⟨_,rfl,_,_,rfl,rfl,.inr ⟨by decide,by decide⟩,_,rfl,l,99999,rfl,stB.b,by decide,by decide,λdc HC dc0 dc1 sC=>?_⟩;refine⟨_,_,rfl,rfl,_,rfl,_,rfl,_,rfl,_,rfl,true,true,b,wr,D,br,⟨k*100000+dc,ws,kd,as,bs⟩,rfl,aX.of (sC.m _ _ XT e2B),aX.of (sC.m _ _ RK e6B),?_,?_,λr HD sD lt=>?_⟩
 .cases b with
  |true=>exact sC.seq hbr (nbr rfl)
  |false=>exact sC.kept.tup hbr
 .exact⟨⟨by show 0<=k*100000+dc;lia,by show k*100000+dc<=900000;lia⟩,⟨⟨w1 (by lia),by show ws.length<=6;lia⟩,wb,wnd⟩,hkd,⟨by show(as.length:Int)<=4;lia,ab⟩,okb⟩
 exact q r HD _ ((stB.trans sC).same sD) lt ⟨⟨by show 0<=k*100000+dc;lia,by show k*100000+dc<=900000;lia⟩,⟨⟨w1 (by lia),by show ws.length<=6;lia⟩,wb,wnd⟩,hkd,⟨by show(as.length:Int)<=4;lia,ab⟩,okb⟩ hN
def Wl.qO{L:List (Tk×Int)}(kn:(L.map (·.1)).Nodup){goal x s:Int}{ws:List Int}(h:Wl L goal x ws s):qO L ws=some s/\ws.getLast?=some goal:=by
 induction h with
 |done=>exact⟨vy _ _,rfl⟩
 |@step x e l s ws h w ih =>
  obtain⟨t,rfl⟩:=w.head;rw[vx,(fF kn).mpr h,ih.1];exact⟨rfl,by rw[List.getLast?_cons_cons];exact ih.2⟩
def Gr.down{hv:Hv}(f:Fin L goal hv)(h:Gr L hv goal x ws):∃n,lk hv x=some n/\(∀y∈ws,∃m,lk hv y=some m/\m<=n)/\ws.Nodup:=by
 induction h with
 |done=>exact⟨0,f.h.g,λy hy=>by rw[bX.mp hy];exact⟨0,f.h.g,lC _⟩,by simp⟩
 |@step x e ws ne nx g ih =>
  obtain⟨n,h1,h2,h3⟩:=ih;obtain⟨⟨l,m,h4,h5,h6⟩,_⟩:=nx;rw[h1]at h5;cases h5;have l1:=f.pos h4;refine⟨n+l,h6,λy hy=>?_,ic.mpr ⟨λhm=>?_,h3⟩⟩
  .rcases au.mp hy with rfl|hy
   .exact⟨_,h6,lC _⟩
   obtain⟨m,a,b⟩:=h2 y hy;exact⟨m,a,by lia⟩
  obtain⟨m,a,b⟩:=h2 x hm;rw[h6]at a;cases a;lia
def yW.in{ps:Hv}(h:yW L goal ps){n:Int}:(x,n)∈ps↔lk ps x=some n:=by
 have nd:(ps.map (·.1)).Nodup:=h.r.imp λz e=>by lia
 unfold lk;constructor
 .intro hm;cases e:ps.find? λp=>decide (p.1=x)with
  |none=>exact absurd (wR.mp e _ hm) (by simp)
  |some q =>
   have h1:=zT e;have h2:q.1=x:=(by simpa using oq e);obtain⟨i,il,rfl⟩:=eU h1;obtain⟨j,jl,ej⟩:=eU hm;have:i=j:=(oM (xs:=ps.map (·.1)) (h₀:=by simpa using il) (h₁:=by simpa using jl) nd).mp (by simp[ej,h2]);subst this;rw[ej];rfl
 intro hm;obtain⟨q,e,rfl⟩:=gk.mp hm;have h2:q.1=x:=by simpa using oq e
 rw[<-h2];exact zT e
def wK{hv:Hv}(hp:ns.Perm (hv.map (·.1)))(x:Int):lk (iN hv ns) x=lk hv x:=by
 by_cases c:x∈ns
 .obtain⟨n,hn⟩:=M6 (hp.mem_iff.mp c);rw[hn];unfold lk iN;rw[List.find?_map];cases e:ns.find? ((λp:Int×Int=>decide (p.1=x))∘λh=>(h,(lk hv h).getD 0))with
  |none=>exact absurd (wR.mp e x c) (by simp)
  |some y =>
   have h2:y=x:=(by simpa using oq e);subst h2;show some ((lk hv y).getD 0)=some n;rw[hn];rfl
 rw[gN.mpr (λz=>c (hp.mem_iff.mpr z))];refine gN.mpr ?_;unfold iN;rw[bB];intro hm;obtain⟨y,hy,e⟩:=ao.mp hm;exact c (by rw[<-show y=x from e];exact hy)
def ui(hv:Hv)(ns:List Int):(iN hv ns).map (·.1)=ns:=by unfold iN;rw[bB];exact List.map_id'' (λ_=>rfl) _
def Fin.hold{hv:Hv}(f:Fin L goal hv)(hp:ns.Perm (hv.map (·.1)))(hs:ns.Pairwise (·<=·)):yW L goal (iN hv ns):=by
 refine⟨λx=>?_,?_,?_,λb e l he m n h1 h2=>?_⟩
 .rw[ui,hp.mem_iff];exact f.keys x
 .rw[ui];exact v9 hs (hp.nodup_iff.mpr f.h.nd)
 .rw[wK hp];exact f.h.g
 rw[wK hp]at h1 h2;obtain⟨k,h3,h4⟩:=f.c _ he b e rfl n h2;rw[h1]at h3;cases h3;have h4:m<=n+l:=h4;lia
def Wk.congr(h:∀e,e∈L->e∈L')(w:Wk L goal x s):Wk L' goal x s:=by
 induction w with
 |nil=>exact .nil
 |cons h1 _ ih=>exact .cons (h _ h1) ih
def Bm{L L':List (Tk×Int)}(kn:(L.map (·.1)).Nodup)(Uc:(L'.map (·.1)).Nodup)(h:∀e,e∈L↔e∈L'):∀ws,qO L ws=qO L' ws
 |[]=>by rw[qO,qO]<;>(intro x y r z;cases z)
 |[x]=>by rw[vy,vy]
 |x::y::r=>by
  rw[vx,vx,Bm kn Uc h (y::r)];have:mR L [x,y]=mR L' [x,y]:=by
   cases e:mR L [x,y]with
   |none =>
    cases e':mR L' [x,y]with
    |none=>rfl
    |some l =>
     rw[(fF kn).mpr ((h _).mpr ((fF Uc).mp e'))]at e;cases e
   |some l=>exact((fF Uc).mpr ((h _).mp ((fF kn).mp e))).symm
  rw[this]
def yW.congr{L L':List (Tk×Int)}(h:∀e,e∈L↔e∈L'){goal:Int}{ps:Hv}(z:yW L goal ps):yW L' goal ps :=
 ⟨λx=>(z.k x).trans ⟨λ⟨s,w⟩=>⟨s,w.congr λe=>(h e).mp⟩,λ⟨s,w⟩=>⟨s,w.congr λe=>(h e).mpr⟩⟩,z.r,z.g,λb e l he=>z.e b e l ((h _).mpr he)⟩
def yX.congr{L L':List (Tk×Int)}(kn:(L.map (·.1)).Nodup)(Uc:(L'.map (·.1)).Nodup)(h:∀e,e∈L↔e∈L'){one Ā:Int}{ws:List Int}{ps:Hv}(z:yX L one Ā ws ps):yX L' one Ā ws ps :=
 ⟨z.1,z.2.1.congr h,by rw[<-Bm kn Uc h];exact z.2.2⟩
def rD{ts ts':List T3}(h:∀t,t∈ts↔t∈ts')(e:Tk×Int):e∈iM ts↔e∈iM ts':=by
 rw[kr,kr];constructor
 .rintro⟨t,ht,z⟩;exact⟨t,(h t).mp ht,z⟩
 rintro⟨t,ht,z⟩;exact⟨t,(h t).mpr ht,z⟩
def Wk.snoc{g y l:Int}(w:Wk L g x s)(h:([g,y],l)∈L):∃s',Wk L y x s':=by
 induction w with
 |nil=>exact⟨_,.cons h .nil⟩
 |cons h1 _ ih =>
  obtain⟨s',z⟩:=ih;exact⟨_,.cons h1 z⟩
def Wk.symm(sy:∀a b l,([a,b],l)∈L->([b,a],l)∈L){g:Int}(w:Wk L g x s):∃s',Wk L x g s':=by
 induction w with
 |nil=>exact⟨0,.nil⟩
 |cons h1 _ ih =>
  obtain⟨s',z⟩:=ih;exact z.snoc (sy _ _ _ h1)
def Wk.ends{ts:List T3}(w:Wk (iM ts) goal x s):x=goal\/∃t∈ts,x=t.1\/x=t.2.1:=by
 cases w with
 |nil=>exact .inl rfl
 |cons h _ =>
  obtain⟨t,ht,z⟩:=kr.mp h;refine .inr ⟨t,ht,?_⟩;rcases z with z|z
  .have e:=(tY z).1;simp only[jK,fV]at e;exact .inl e.1
  have e:=(tY z).1;simp only[jK,fV]at e;exact .inr e.1
def OY{ts:List T3}{hv OP:Hv}(f:Fin (iM ts) Ā hv)(hn:lk hv one=none)(f2:Fin (iM ts) one OP)(hp:ns.Perm (OP.map (·.1)))(hs:ns.Pairwise (·<=·))(ht:∀t∈ts,(0<=t.1/\t.1<32)/\(0<=t.2.1/\t.2.1<32))(ho:0<=one/\one<32):BZ (iM ts) one Ā ns:=by
 have mem:∀x,x∈ns↔∃s,Wk (iM ts) one x s:=λx=>hp.mem_iff.trans (f2.keys x);refine⟨⟨v9 hs (hp.nodup_iff.mpr f2.h.nd),λn hn=>?_⟩,(mem one).mpr ⟨0,.nil⟩,λz=>?_,λa b l he ha=>?_⟩
 .obtain⟨s,w⟩:=(mem n).mp hn;rcases w.ends with rfl|⟨t,h,rfl|rfl⟩
  .exact ho
  .exact(ht t h).1
  exact(ht t h).2
 .obtain⟨s,w⟩:=(mem Ā).mp z;obtain⟨s',w'⟩:=w.symm f2.sy;obtain⟨n,h1,_⟩:=f.le w';rw[hn]at h1;cases h1
 obtain⟨s,w⟩:=(mem a).mp ha;exact(mem b).mpr ⟨_,.cons (f2.sy _ _ _ he) w⟩
def BZ.congr(h:∀e,e∈L↔e∈L')(z:BZ L one Ā ns):BZ L' one Ā ns:=⟨z.r,z.o,z.t,λa b l he=>z.e a b l ((h _).mpr he)⟩
def Wl.congr(h:∀e,e∈L->e∈L')(w:Wl L goal x ws s):Wl L' goal x ws s:=by
 induction w with
 |done=>exact .done
 |step h1 _ ih=>exact .step (h _ h1) ih
def Xx(L:List (Tk×Int))(goal x n:Int):Prop:=Wk L goal x n/\∀s,Wk L goal x s->n<=s
def Xx.congr{L L':List (Tk×Int)}(h:∀e,e∈L↔e∈L'){goal x n:Int}:Xx L goal x n↔Xx L' goal x n :=
 ⟨λz=>⟨z.1.congr λe he=>(h e).mp he,λs w=>z.2 s (w.congr λe he=>(h e).mpr he)⟩,λz=>⟨z.1.congr λe he=>(h e).mpr he,λs w=>z.2 s (w.congr λe he=>(h e).mp he)⟩⟩
def Fin.sht{hv:Hv}(f:Fin L goal hv)(x n:Int):lk hv x=some n↔Xx L goal x n:=by
 constructor
 .intro h;refine⟨f.wk n.toNat (ae _) h,λs w=>?_⟩;obtain⟨m,h1,h2⟩:=f.le w;rw[h]at h1;cases h1;exact h2
 rintro⟨w,h⟩;obtain⟨m,h1,h2⟩:=f.le w;have:=h m (f.wk m.toNat (ae _) h1);rw[h1]
 congr 1;lia
def RL:∀{hv:Hv},(hv.map (·.1)).Nodup->∀x n:Int,(x,n)∈hv↔lk hv x=some n
 |[],_,x,n=>by simp[lk]
 |p::hv,nd,x,n=>by
  obtain⟨n1,n2⟩:=ic.mp nd;have ih:=RL n2 x n;unfold lk at ih ⊢;rw[ia,au];by_cases c:p.1=x
  .subst c;rw[bw rfl];constructor
   .rintro(e|e)
    .exact az (some∘Prod.snd) e.symm
    exact absurd (ao.mpr ⟨_,e,rfl⟩) n1
   intro e;exact .inl (Prod.ext rfl (bR e).symm)
  rw[cL c];constructor
  .rintro(e|e)
   .exact absurd (az Prod.fst e).symm c
   exact ih.mp e
  exact λe=>.inr (ih.mpr e)
def pD(p:Int×Int):PyData:=.tuple [.int p.1,.int p.2]
def Ud{n:Nat}{a:JY}{p:Int×Int}(h:bO K H a [.int p.1,.int p.2]):ar K H (n+1) (.ref a) (pD p):=by
 refine .tup h rfl λi x d hx hd=>?_
 match i,hx,hd with
 |0,hx,hd=>cases hx;cases hd;exact .int _
 |1,hx,hd=>cases hx;cases hd;exact .int _
 |i+2,hx,_=>simp at hx
def RM{n:Nat}{l:JY}{ps:Hv}(h:sX K H l ps):ar K H (n+2) (.ref l) (.list (ps.map pD)):=by
 obtain⟨zs,z1,z2,rfl⟩:=h.ex;refine .lst (aX.of z1) (by rw[aJ,aJ,aJ]) λi x d e1 e2=>?_;rw[bh]at e1;rw[bh,bh]at e2;cases e:zs[i]? with
 |none=>rw[e]at e1;cases e1
 |some o=>rw[e]at e1 e2;cases e1;cases e2;exact Ud (z2 o (bL e))
def XW(ws:List Int)(ps:Hv):PyData:=.tuple [.str "way",.tuple (ws.map .int),.list (ps.map pD)]
def Ue{r p hl:JY}{ps:Hv}(h:bO K H r [.str "way",.ref p,.ref hl])(h1:bO K H p (ws.map V.int))(h2:sX K H hl ps):ar K H 8 (.ref r) (XW ws ps):=by
 refine .tup h rfl λi x d hx hd=>?_
 match i,hx,hd with
 |0,hx,hd=>cases hx;cases hd;exact .str _ (by decide +kernel)
 |1,hx,hd=>cases hx;cases hd;exact LW h1
 |2,hx,hd=>cases hx;cases hd;exact RM h2
 |i+3,hx,_=>simp at hx
def RN(ns:List Int):PyData:=.tuple [.str "side",.tuple (ns.map .int)]
def RO{r p:JY}(h:bO K H r [.str "side",.ref p])(h1:bO K H p (ns.map V.int)):ar K H 8 (.ref r) (RN ns):=by
 refine .tup h rfl λi x d hx hd=>?_
 match i,hx,hd with
 |0,hx,hd=>cases hx;cases hd;exact .str _ (by decide +kernel)
 |1,hx,hd=>cases hx;cases hd;exact LW h1
 |i+2,hx,_=>simp at hx
def RP{α:Type}{r:α->α->Prop}(as:∀a b,r a b->¬r b a):∀{xs ys:List α},xs.Pairwise r->ys.Pairwise r->(∀x,x∈xs↔x∈ys)->xs=ys
 |[],[],_,_,_=>rfl
 |[],y::_,_,_,h=>absurd ((h y).mpr bp) bE
 |x::_,[],_,_,h=>absurd ((h x).mp bp) bE
 |x::xs,y::ys,hx,hy,h=>by
  obtain⟨x1,x2⟩:=uq.mp hx;obtain⟨y1,y2⟩:=uq.mp hy;have e:x=y:=by
   rcases au.mp ((h x).mp bp)with e|e
   .exact e
   rcases au.mp ((h y).mpr bp)with f|f
   .exact f.symm
   exact absurd (x1 y f) (as _ _ (y1 x e))
  subst e;refine az _ (RP as x2 y2 λz=>⟨λhz=>?_,λhz=>?_⟩)
  .rcases au.mp ((h z).mp (bU _ hz))with e|e
   .exact absurd (x1 z hz) (by rw[e];exact λw=>as _ _ w w)
   exact e
  rcases au.mp ((h z).mpr (bU _ hz))with e|e
  .exact absurd (y1 z hz) (by rw[e];exact λw=>as _ _ w w)
  exact e
inductive RR(K:Ni)(H:Hp)(ts:List T3)(one Ā:Int)(r:JY):PyData->Prop
 |side (p:JY) (ns:List Int):bO K H r [.str "side",.ref p]->bO K H p (ns.map V.int)->ns.length<=13->BZ (iM ts) one Ā ns->ns.Pairwise (·<·)->(∀x,x∈ns↔∃s,Wk (iM ts) one x s)->(∀s,¬Wk (iM ts) Ā one s)->RR K H ts one Ā r (RN ns)
 |way (p hl:JY) (ws:List Int) (ps:Hv) (n:Int):bO K H r [.str "way",.ref p,.ref hl]->bO K H p (ws.map V.int)->ws.length<=13->sX K H hl ps->ps.length<=13->yX (iM ts) one Ā ws ps->Wl (iM ts) Ā one ws n->(∀vs s,Wl (iM ts) Ā one vs s->n::ws=s::vs\/n::ws<s::vs)->(ps.map (·.1)).Pairwise (·<·)->(∀x n,(x,n)∈ps↔Xx (iM ts) Ā x n)->RR K H ts one Ā r (XW ws ps)
def RR.dat{ts:List T3}{r:JY}{d:PyData}(h:RR K H ts one Ā r d):ar K H 8 (.ref r) d:=by
 cases h with
 |side p ns h1 h2=>exact RO h1 h2
 |way p hl ws ps n h1 h2 _ h4=>exact Ue h1 h2 h4
def RR.uniq{ts:List T3}{r r':JY}{d d':PyData}(h:RR K H ts one Ā r d)(h':RR K H' ts one Ā r' d'):d=d':=by
 cases h with
 |side p ns _ _ _ _ a1 a2 a3 =>
  cases h' with
  |side p' ns' _ _ _ _ b1 b2 b3=>rw[RP (λa b c=>by lia) a1 b1 λx=>(a2 x).trans (b2 x).symm]
  |way p' Rt ws' ps' n' _ _ _ _ _ _ b1=>exact absurd b1.wk (a3 _)
 |way p hl ws ps n _ _ _ _ _ _ a1 a2 a3 a4 =>
  cases h' with
  |side p' ns' _ _ _ _ b1 b2 b3=>exact absurd a1.wk (b3 _)
  |way p' Rt ws' ps' n' _ _ _ _ _ _ b1 b2 b3 b4 =>
   have e:n::ws=n'::ws':=by
    rcases a2 _ _ b1 with e|e
    .exact e
    rcases b2 _ _ a1 with f|f
    .exact f.symm
    exact absurd e (zx f)
   have ew:ws=ws':=(i5 e).2;rw[gm]at a3 b3;have ep:ps=ps':=RP (r:=λa b=>a.1<b.1) (λa b c=>by lia) a3 b3 λx=>(a4 x.1 x.2).trans (b4 x.1 x.2).symm;rw[ew,ep]
def RS{x d:JY}{ms:Ms}{ts:List T3}{E:XK}(hM:i0 K C H x d ms)(ml:ms.length<=12)(UP:vn ms)(hq:Lh ms)(td:Rw ts)(hms:∀t,t∈ts↔fE ms t)(h32:∀t∈ts,(0<=t.1/\t.1<32)/\(0<=t.2.1/\t.2.1<32))(ho:0<=one/\one<32)(z:∀(r:JY)(H1:Hp),aI H H1->∀d,RR K H1 ts one Ā r d->Q (.ref r) H1):mT K C [.ref x,.int one,.int Ā] H Q E:=by
 refine⟨x,d,one,Ā,ms,rfl,hM,ml,UP,hq,λts' hv OP ns r p H1 s1 hm Io fin XX fin2 pn sn IX GQ=>z r H1 s1 (RN ns) ?_,λts' hv n ns ws r p Rt H1 s1 hm Io fin XX gr pn sn IX GQ nhl pr=>z r H1 s1 (XW ws (iN hv ns)) ?_⟩
 .have ec:=rD λt=>(hm t).trans (hms t).symm;have f:=fin2.h.wM hm;refine .side p ns IX GQ (by rw[pn.length_eq,aJ];lia) ((OY fin XX fin2 pn sn (λt ht=>h32 t ((hms t).mpr ((hm t).mp ht))) ho).congr ec) (v9 sn (pn.nodup_iff.mpr fin2.h.nd)) (λy=>(pn.mem_iff.trans (fin2.keys y)).trans ⟨λ⟨s,w⟩=>⟨s,w.congr λe he=>(ec e).mp he⟩,λ⟨s,w⟩=>⟨s,w.congr λe he=>(ec e).mpr he⟩⟩) λs w=>?_;obtain⟨m,h1,_⟩:=fin.le (w.congr λe he=>(ec e).mpr he);rw[XX]at h1;cases h1
 have ec:=rD λt=>(hm t).trans (hms t).symm;have f:=fin.h.wM hm;have nl:ns.length<=13:=by rw[pn.length_eq,aJ];lia
 obtain⟨n',J4,wt⟩:=gr.wl fin;rw[XX]at J4;cases J4;obtain⟨_,_,uk,ndt⟩:=gr.down fin;have wl:ws.length<=13:=by
  have:=zP (hv.map (·.1)) ws ndt λy hy=>by
   obtain⟨m,e,_⟩:=uk y hy;cases Classical.em (y∈hv.map (·.1))with
   |inl z=>exact z
   |inr z=>rw[gN.mpr z]at e;cases e
  rw[aJ]at this;lia
 have rk:((iN hv ns).map (·.1)).Pairwise (·<·):=by rw[ui];exact v9 sn (pn.nodup_iff.mpr fin.h.nd)
 have Uc:=kI Io;have hh0:=fin.hold pn sn;have on:(one,n)∈iN hv ns:=by rw[hh0.in,wK pn,XX]
 have hg:Q7 ws one Ā:=by obtain⟨tl',rfl⟩:=wt.head;exact⟨rfl,(wt.qO Uc).2,ndt⟩
 refine .way p Rt ws (iN hv ns) n IX GQ wl pr (by unfold iN;rw[aJ];exact nl) (yX.congr Uc (kI td) ec ⟨hg,hh0,n,(wt.qO Uc).1,on⟩) (wt.congr λe he=>(ec e).mp he) (λvs s w=>?_) rk λy m=>?_
 .have w':=w.congr λe he=>(ec e).mpr he;obtain⟨m,h1,h2⟩:=fin.le w'.wk;rw[XX]at h1;cases h1;rcases Int.lt_or_eq_of_le h2 with c|c
  .exact .inr (List.Lex.rel c)
  subst c;rcases gr.least fin w' XX with e|e
  .exact .inl (by rw[e])
  exact .inr (List.Lex.cons e)
 rw[RL (rk.imp λz e=>by lia),wK pn,fin.sht,Xx.congr ec]
def Lr(ms ks:Ms):Prop:=(ms.map (·.2)).Perm (ks.map (·.2))
def Lr.news{ms ks us vs:Ms}(h:Lr ms ks)(hu:us.Perm ms/\(hs us).Pairwise (·<·))(hv:vs.Perm ks/\(hs vs).Pairwise (·<·)):us.map (·.2)=vs.map (·.2):=by
 have p1:=hu.2;have p2:=hv.2;unfold hs at p1 p2;have q1:(us.map (·.2)).Pairwise λa b:Nw=>a.h<b.h:=by rw[gm]at p1 ⊢;exact p1
 have q2:(vs.map (·.2)).Pairwise λa b:Nw=>a.h<b.h:=by rw[gm]at p2 ⊢;exact p2
 exact DS (le:=λa b:Nw=>a.h<b.h) (λa b _ _ x y=>absurd x (by lia)) q1 q2 ((hu.1.map _).trans (h.trans (hv.1.map _).symm))
def Lr.mem{ms ks:Ms}(h:Lr ms ks){m:V×Nw}(hm:m∈ms):∃m'∈ks,m'.2=m.2:=by have:=h.mem_iff.mp (ao.mpr ⟨m,hm,rfl⟩);obtain⟨m',h1,h2⟩:=ao.mp this;exact⟨m',h1,h2⟩
def Lr.symm{ms ks:Ms}(h:Lr ms ks):Lr ks ms:=List.Perm.symm h
def Lr.F0{ms ks:Ms}(h:Lr ms ks){t:T3}(z:fE ms t):fE ks t:=by obtain⟨lt,m1,h1,m2,h2,w1,g1,w2,g2,e⟩:=z;obtain⟨n1,k1,e1⟩:=h.mem h1;obtain⟨n2,k2,e2⟩:=h.mem h2;exact⟨lt,n1,k1,n2,k2,w1,by rw[e1];exact g1,w2,by rw[e2];exact g2,by rw[e1,e2];exact e⟩
def Lr.Kw{ms ks:Ms}(h:Lr ms ks){a b:Int}(ha:M1 ms cs a)(hb:M1 ks cs b):a=b:=by obtain⟨m,h1,h2,h3,h4⟩:=ha;obtain⟨n,g1,g2,g3,g4⟩:=hb;obtain⟨m',k1,k2⟩:=h.mem h1;obtain⟨n',l1,l2⟩:=h.symm.mem g1;have x1:=g4 m' k1 (by rw[k2];exact h3);have x2:=h4 n' l1 (by rw[l2];exact g3);rw[k2]at x1;rw[l2]at x2;lia
def Lr.no{ms ks:Ms}(h:Lr ms ks){a:Int}(ha:M1 ms cs a)(hb:∀m∈ks,cs∉m.2.names):False:=by obtain⟨m,h1,h2,h3,h4⟩:=ha;obtain⟨m',k1,k2⟩:=h.mem h1;exact hb m' k1 (by rw[k2];exact h3)
def aAb{a:JY}{us:Ms}(ha:aX K H a (us.map (·.1)))(h:∀m∈us,Fd K H m.1 m.2):ar K H 8 (.ref a) (.list ((us.map (·.2)).map Xq)):=by
 refine .lst ha (by simp) λi x d e1 e2=>?_;rw[bB]at e2;rw[bh]at e1 e2;cases e:us[i]? with
 |none=>rw[e]at e1;cases e1
 |some z=>rw[e]at e1 e2;cases e1;cases e2;exact ar.up (h z (bL e)) (by decide)
def t3L{a:JY}{ts:List T3}(h:Qw K H a ts):ar K H 8 (.ref a) (.list (ts.map JU)):=by
 obtain⟨zs,h1,h2,rfl⟩:=h;refine .lst (aX.of h1) (by simp) λi x d e1 e2=>?_;rw[bB]at e2;rw[bh]at e1 e2;cases e:zs[i]? with
 |none=>rw[e]at e1;cases e1
 |some z=>rw[e]at e1 e2;cases e1;cases e2;exact ar.up (h2 z (bL e)) (by decide)
def RR.same{K:Ni}{H H':Hp}{ts:List T3}{one Ā:Int}{r:JY}{d:PyData}(h:RR K H ts one Ā r d)(s:aI H H'):RR K H' ts one Ā r d:=by
 cases h with
 |side p ns h1 h2 h3 h4 h5 h6 h7=>exact .side p ns (s.tup h1) (s.tup h2) h3 h4 h5 h6 h7
 |way p hl ws ps n h1 h2 h3 h4 h5 h6 h7 h8 h9 h10=>exact .way p hl ws ps n (s.tup h1) (s.tup h2) h3 (h4.same s) h5 h6 h7 h8 h9 h10
inductive tH(K:Ni)(C:JY)(vs:List V)(H:Hp)(Q:VK)(_:XK):Prop
 |mk (x d y e:JY) (ms ks:Ms) (_:vs=[.ref x,.ref y]) (_:i0 K C H x d ms) (_:i0 K C H y e ks) (_:Lr ms ks) (_:ms.length<=12) (_:(∀m∈ms,CJ m.2)) (_:∀H',aI H H'->Q (.bl true) H')
def gF:aM ["one","other","name","start","goal","answer"] ["one","other"] (aH nh):=ac
def CY(F:aY K mg "_law_alike" nh)(T:Txt K mg t)(fG:cn P w K mg à (oV P w) 1 t.ni fn ["self"] (rB K t.Map))(fH:ú K fn ["self"] [])(iU:cn P w K mg à (oV P w) 2 t.nj fw ["self"] (vo K t.Map))(iV:ú K fw ["self"] [])(kQ:cn P w K mg à (oV P w) 2 t.mM fh ["self","name"] (xn K t.Map))(kR:ú K fh ["self","name"] [])(wL:ã P w K mg à 4 "way_of" ["chart","one","other"] (mT K t.Map))(oJ:ã P w K mg à 4 "way_judged" ["chart","one","other","answer"] (sj K t.Map)):ã P w K mg à 5 "_law_alike" ["one","other"] (tH K t.Map):=by
 refine F.eY gF λf bM A á s H vs Q E hr h=>?_;obtain⟨x,d,y,e,ms,ks,rfl,hM,hK,al,ml,okN,q⟩:=h;refine⟨_,aC (ax (PW.pt (kX (bI (nE K (dU hr)) (dv (pv 0) T.jB T.nu (fG.mono (by decide)) hr fH .nil eG) (dv (pv 1) T.jB T.nu (fG.mono (by decide)) hr fH .nil eG)) (jx (bI (nE K (dU hr)) (dv (pv 0) T.jB T.vY (iU.mono (by decide)) hr iV .nil eG) (dv (pv 1) T.jB T.vY (iU.mono (by decide)) hr iV .nil eG)))))
   (aE (aQ jw))
   (aW))
  (aC (cu (bH K (bJ (aA cE (aA cE (aA cE (aA cE (aA cE aD))))))) (bu 2 gF) (aE (ax (bI (WY K (dU hr)) (mr (pv 0) T.jB T.xW (kQ.mono (by decide)) hr kR .nil eG (aA (pv 2) aD)) (mr (pv 1) T.jB T.xW (kQ.mono (by decide)) hr kR .nil eG (aA (pv 2) aD)))
    (aE (aQ jw))
    (aW))))
  (aC (cu (cq (by rfl) T.cw (aA aF aD)) (bu 3 gF) (aE (tu oh rfl (cq (by rfl) T.cw (aA aF aD)) (bu 4 gF)
    (aC (aV 5 gF (aO wL hr (aA (pv 0) (aA (pv 3) (aA (pv 4) aD)))))
    (aE (ax (PW.pt (kX (bI (nE K (dU hr)) (pv 5) (aO wL hr (aA (pv 1) (aA (pv 3) (aA (pv 4) aD))))) (jx (eE (fX (aO oJ hr (aA (pv 1) (aA (pv 3) (aA (pv 4) (aA (pv 5) aD))))))))))
     (aE (aQ jw))
     (aW)))))))
  (aE (aQ jw)))),?_⟩
 have hsz:=bZ;have kl:ks.length<=12:=by have:=al.length_eq;rw[aJ,aJ]at this;lia
 have okK:∀m∈ks,CJ m.2:=λm hm=>by obtain⟨m',h1,h2⟩:=al.symm.mem hm;rw[<-h2];exact okN m' h1
 have UP:vn ms:=λm hm=>⟨(okN m hm).2.2.1.2.2.1,(okN m hm).2.2.1.2.1⟩;have okk:vn ks:=λm hm=>⟨(okK m hm).2.2.1.2.2.1,(okK m hm).2.2.1.2.1⟩;have wqm:Lh ms:=λm hm w hw=>((okN m hm).2.2.1.1 w hw).2.1;have wqk:Lh ks:=λm hm w hw=>((okK m hm).2.2.1.1 w hw).2.1;obtain⟨dx,hx⟩:=hM.o;obtain⟨dy,hy⟩:=hK.o;refine⟨_,rfl,x,dx,_,rfl,hx,rfl,x,d,ms,rfl,hM,by lia,λr H1 us s1 _ e1 pm XC=>?_⟩;refine⟨_,rfl,y,dy,_,rfl,s1 _ _ hy,rfl,y,e,ks,rfl,hK.same s1,by lia,λr2 H2 vs s2 _ e2 pk srk=>?_⟩;have S2:=s1.trans s2;have E1:ar K H2 8 (.ref r) (.list ((us.map (·.2)).map Xq)):=aAb (aX.of (s2 _ _ e1)) λm hm=>(hM.all m (pm.mem_iff.mp hm)).same S2;have E2:ar K H2 8 (.ref r2) (.list ((vs.map (·.2)).map Xq)):=aAb (aX.of e2) λm hm=>(hK.all m (pk.mem_iff.mp hm)).same S2;rw[<-al.news ⟨pm,XC⟩ ⟨pk,srk⟩]at E2;refine⟨_,_,E1,E2,_,rfl,?_⟩;rw[aL rfl,E1.eqv];refine(show if(!true)=true then _ else _ from c9 ?_);refine⟨_,rfl,x,dx,_,rfl,S2 _ _ hx,rfl,x,d,ms,rfl,hM.same S2,ml,UP,λr3 H3 ts s3 _ w3 m3 p3 _=>?_⟩;have S3:=S2.trans s3;refine⟨_,rfl,y,dy,_,rfl,S3 _ _ hy,rfl,y,e,ks,rfl,hK.same S3,kl,okk,λr4 H4 ts2 s4 _ w4 m4 p4 _=>?_⟩;have et:ts=ts2:=Ik p3 p4 λt=>by rw[m3,m4];exact⟨al.F0,al.symm.F0⟩
 have E3:=t3L (w3.same s4);have E4:=t3L w4;rw[<-et]at E4;refine⟨_,_,E3,E4,_,rfl,?_⟩;rw[aL rfl,E3.eqv];refine(show if(!true)=true then _ else _ from c9 ?_);have S4:=S3.trans s4;have td:Rw ts:=⟨λt ht=>((m3 t).mp ht).1,p3.imp_of_mem λ{a b} ha hb h e=>by have:=yV hM.nd UP ((m3 a).mp ha) ((m3 b).mp hb) e.1 e.2;rw[this]at h;exact List.lt_irrefl _ h⟩
 have h32:∀t∈ts,(0<=t.1/\t.1<32)/\(0<=t.2.1/\t.2.1<32):=λt ht=>by obtain⟨_,n1,g1,n2,g2,_,_,_,_,f1,f2,_⟩:=(m3 t).mp ht;have a1:0<=n1.2.h/\n1.2.h<32:=(okN n1 g1).1;have a2:0<=n2.2.h/\n2.2.h<32:=(okN n2 g2).1;rw[f1]at a1;rw[f2]at a2;exact⟨a1,a2⟩
 have mk:∀t,t∈ts↔fE ks t:=λt=>(m3 t).trans ⟨al.F0,al.symm.F0⟩;refine⟨zz5,λnl' hnl=>?_⟩;obtain⟨H7,ja,s7,e7⟩:=nL S4 (o:=.lst [V.str "a",V.str "k",V.str "zz",V.str "abcd",V.str "none"]) hnl;rw[ja];have aAc:∀y∈[V.str "a",V.str "k",V.str "zz",V.str "abcd",V.str "none"],∃cs,y=qz cs:=by
  intro y hy;have:∃x:Str,y=V.str x:=by simp only[au,bE,dJ]at hy;rcases hy with rfl|rfl|rfl|rfl|rfl<;>exact⟨_,rfl⟩
  obtain⟨x,rfl⟩:=this;exact⟨x.cps.toList,by unfold qz ai;simp⟩
 generalize[V.str "a",V.str "k",V.str "zz",V.str "abcd",V.str "none"]=nms at e7 aAc ⊢;refine⟨nl',rfl,⟨_,aX.of e7⟩,dq (K:=K) (a:=nl') (xs:=nms) (λi Z H'=>(∃v:Option V,Z=[some (.ref x),some (.ref y),v,none,none,none])/\aI H H'/\H' nl'=some (.lst nms)) ⟨⟨_,rfl⟩,s7,e7⟩ (λi Z H' _ p=>aX.of p.2.2) ?_ ?_⟩
 .rintro i z Z H8 hi ⟨⟨v,rfl⟩,s8,e8⟩;obtain⟨cs,rfl⟩:=aAc z (bL hi);refine⟨_,rfl,x,dx,_,rfl,s8 _ _ hx,rfl,_,rfl,x,d,ms,cs,rfl,hM.same s8,by lia,λh H9 s9 Kw=>?_,λH9 s9 aAd=>?_⟩
  .refine⟨_,rfl,y,dy,_,rfl,(s8.trans s9) _ _ hy,rfl,_,rfl,y,e,ks,cs,rfl,hK.same (s8.trans s9),by lia,λh2 PR GO K0=>?_,λPR GO no2=>(al.no Kw no2).elim⟩;refine .inl ⟨rfl,_,rfl,ij (az V.int (al.Kw Kw K0)) ?_⟩;exact⟨⟨_,rfl⟩,s8.trans (s9.trans GO),(s9.trans GO) _ _ e8⟩
  refine⟨_,rfl,y,dy,_,rfl,(s8.trans s9) _ _ hy,rfl,_,rfl,y,e,ks,cs,rfl,hK.same (s8.trans s9),by lia,λh2 PR GO K0=>(al.symm.no K0 aAd).elim,λPR GO no2=>?_⟩;refine .inl ⟨rfl,_,rfl,ij rfl ?_⟩;exact⟨⟨_,rfl⟩,s8.trans (s9.trans GO),(s9.trans GO) _ _ e8⟩
 rintro Z H8 ⟨⟨v,rfl⟩,s8,_⟩;refine⟨6,rfl,by decide,by decide,gY (lo:=0) (n:=6) (λi Z H'=>(∃v3 v4 v5:Option V,Z=[some (.ref x),some (.ref y),v,v3,v4,v5])/\aI H H') ⟨⟨_,_,_,rfl⟩,s8⟩ ?_ ?_⟩
 .rintro i Z H9 hi ⟨⟨v3,v4,v5,rfl⟩,s9⟩;refine⟨6,rfl,by decide,by decide,gY (lo:=0) (n:=6) (λj Z H'=>(∃v4 v5:Option V,Z=[some (.ref x),some (.ref y),v,some (.int (0+(i:Nat))),v4,v5])/\aI H H') ⟨⟨_,_,rfl⟩,s9⟩ ?_ ?_⟩
  .rintro j Z HA hj ⟨⟨v4,v5,rfl⟩,sA⟩;refine⟨_,rfl,_,rfl,_,rfl,?_⟩;unfold PB;show mT K t.Map [.ref x,.int (0+(i:Nat)),.int (0+(j:Nat))] HA _ _;refine RS (ts:=ts) (hM.same sA) ml UP wqm td m3 h32 ⟨by lia,by lia⟩ λra HB sB da fa=>?_;have SB:=sA.trans sB;refine⟨_,rfl,_,rfl,_,rfl,_,rfl,?_⟩;show mT K t.Map [.ref y,.int (0+(i:Nat)),.int (0+(j:Nat))] HB _ _;refine RS (ts:=ts) (hK.same SB) kl okk wqk td mk h32 ⟨by lia,by lia⟩ λrb HC sC db fb=>?_;have fc:=fa.same sC;have ed:=fc.uniq fb;have Da:=fc.dat;have Db:=fb.dat;rw[<-ed]at Db;have SC:=SB.trans sC;refine⟨da,da,Da,Db,_,rfl,?_⟩;rw[aL rfl,Da.eqv];refine(show if(!true)=true then _ else _ from c9 ?_);refine⟨_,rfl,_,rfl,_,rfl,_,rfl,y,e,ra,_,_,ks,rfl,hK.same SC,kl,okk,wqk,?_,λHD sD=>⟨_,rfl,(show if(!true)=true then _ else _ from c9 ⟨⟨_,_,rfl⟩,SC.trans sD⟩)⟩⟩;cases fc with
   |side p ns h1 h2 h3 h4=>exact .inr ⟨p,ns,h1,h2,by lia,λtt mt=>h4.congr λe=>rD (λt=>(mk t).trans (mt t).symm) e⟩
   |way p hl ws ps n h1 h2 h3 h4 h5 h6=>exact .inl ⟨p,hl,ws,ps,h1,h2,by lia,h4,by lia,λtt mt tdt=>yX.congr (kI td) (kI tdt) (λe=>rD (λt=>(mk t).trans (mt t).symm) e) h6⟩
  rintro Z HA ⟨⟨v4,v5,rfl⟩,sA⟩;exact⟨⟨_,_,_,rfl⟩,sA⟩
 rintro Z H9 ⟨⟨v3,v4,v5,rfl⟩,s9⟩;exact q _ s9
def DP(ms:Ms)(z:V×Nw):z∈rQ ms z.1 z.2:=by
 unfold rQ;split
 .rename_i h;obtain⟨m,hm,e⟩:=ao.mp h;exact ao.mpr ⟨m,hm,aL e⟩
 exact ls _ bp
def Ls{ms:Ms}{N:Nw}{m:V×Nw}(hm:m∈ms)(ne:m.2.h≠N.h):m∈rQ ms v N:=by
 unfold rQ;split
 .exact ao.mpr ⟨m,hm,aK ne⟩
 exact tJ _ hm
def Iw(ms:Ms)(v:V)(N:Nw):(rQ ms v N).length<=ms.length+1:=by
 unfold rQ;split
 .rw[aJ];lia
 rw[bV];exact ae _
def Tn(ms:Ms)(rs:List Nw):Prop:=(∀m∈ms,m.2∈rs)/\∀N∈rs,∃m∈ms,m.2.h=N.h/\N.n<=m.2.n
def Tn.nil:Tn [] []:=⟨λm hm=>absurd hm bE,λm hm=>absurd hm bE⟩
def Tn.put{ms:Ms}{rs:List Nw}{N:Nw}(h:Tn ms rs)(nw:BW ms N):Tn (rQ ms v N) (rs++[N]):=by
 refine⟨λm hm=>?_,λy hy=>?_⟩
 .rcases Ij hm with rfl|h1
  .exact ls _ bp
  exact tJ _ (h.1 m h1)
 rcases cH.mp hy with h1|h1
 .obtain⟨m,hm,e1,e2⟩:=h.2 y h1;by_cases e:m.2.h=N.h
  .have:=nw m hm e;exact⟨(v,N),DP ms (v,N),e▸e1,by show _<=N.n;lia⟩
  exact⟨m,Ls hm e,e1,e2⟩
 rw[bX.mp h1];exact⟨(v,N),DP ms (v,N),rfl,lC _⟩
def Tn.keep{ms:Ms}{rs:List Nw}{N:Nw}(h:Tn ms rs)(nn:¬BW ms N):Tn ms (rs++[N]):=by
 refine⟨λm hm=>tJ _ (h.1 m hm),λy hy=>?_⟩;rcases cH.mp hy with h1|h1
 .exact h.2 y h1
 rw[bX.mp h1];refine kU λc=>nn λm hm e=>?_;refine kU λc2=>c ⟨m,hm,e,by lia⟩
def RT{ms:Ms}(nd:(hs ms).Nodup):(ms.map (·.2)).Nodup:=by unfold hs at nd;unfold List.Nodup at nd ⊢;rw[gm]at nd ⊢;exact nd.imp λh e=>h (by rw[e])
def Tn.sub{ms ks:Ms}{rs qs:List Nw}(h:Tn ms rs)(k:Tn ks qs)(nd:(hs ms).Nodup)(e:∀N,N∈rs↔N∈qs)(un:∀N∈rs,∀M∈rs,N.h=M.h->N.n=M.n->N=M):∀N,N∈ms.map (·.2)->N∈ks.map (·.2):=λN hN=>by obtain⟨m,hm,rfl⟩:=ao.mp hN;obtain⟨y,hy,e1,e2⟩:=k.2 m.2 ((e _).mp (h.1 m hm));have yr:=(e _).mpr (k.1 y hy);obtain⟨m',UM,e3,e4⟩:=h.2 y.2 yr;obtain rfl:=zO nd UM hm (by lia);exact ao.mpr ⟨y,hy,un _ yr _ (h.1 m' hm) e1 (by lia)⟩
def Tn.alk{ms ks:Ms}{rs qs:List Nw}(h:Tn ms rs)(k:Tn ks qs)(nd:(hs ms).Nodup)(nk:(hs ks).Nodup)(e:∀N,N∈rs↔N∈qs)(un:∀N∈rs,∀M∈rs,N.h=M.h->N.n=M.n->N=M):Lr ms ks :=
 (aAi (RT nd) (RT nk)).mpr λN=>⟨h.sub k nd e un N,k.sub h nk (λN=>(e N).symm) (λN hN M hM=>un N ((e N).mpr hN) M ((e M).mpr hM)) N⟩
def RU{xs:TX}{p:Tk×JY×V}(nd:(xs.map (·.1)).Nodup)(hp:p∈xs):ir xs p.1=some p.2.2:=by
 unfold ir
 induction xs with
 |nil=>cases hp
 |cons y ys ih =>
  rw[bz,ic]at nd;rw[ia];rcases au.mp hp with rfl|h
  .simp
  have:decide (y.1=p.1)=false:=cL λe=>nd.1 (e▸ao.mpr ⟨p,h,rfl⟩);rw[this];exact ih nd.2 h
def XY{el:JY}(e:H D=some (.lst []))(TF:H el=none):ar K (ü H el (.lst [])) 8 (.ref D) (.list [])/\ar K (ü H el (.lst [])) 8 (.ref el) (.list []) :=
 ⟨.lst (aX.of (((aI.refl H).new TF) _ _ e)) rfl λi v d e1=>by simp at e1,.lst (aX.of aB) rfl λi v d e1=>by simp at e1⟩
def NwL(z:JY×CD):Prop:=z.2.kind="news"->∃N,OW N/\z.2.bd=nb N
def lzD{a:JY}{zs:Lz}(ha:aX K H a (zs.map uh))(h:xp K H zs):ar K H 8 (.ref a) (.list ((zs.map (·.2)).map ltD)):=by
 refine .lst ha (by simp) λi x d e1 e2=>?_;rw[bB]at e2;rw[bh]at e1 e2;cases e:zs[i]? with
 |none=>rw[e]at e1;cases e1
 |some z=>rw[e]at e1 e2;cases e1;cases e2;exact(h z (bL e)).1.dat (h z (bL e)).2.kind
abbrev Fr:=List (JY×V×Nw)
def kx(r:JY×V×Nw):Tk×JY×V:=([r.2.2.h,r.2.2.n],r.1,r.2.1)
def OZ{xs:TX}{k:Tk}{b:JY}(nd:(xs.map (·.1)).Nodup)(h:ir xs k=some v):lG xs k b v=xs:=by
 unfold lG;rw[aL (by rw[h];rfl)];unfold ir at h;obtain⟨y,hy,e⟩:=gk.mp h;have y1:y.1=k:=by simpa using oq hy
 have ym:=zT hy
 conv=>rhs;rw[<-AF xs]
 refine iY λx hx=>?_;split
 .next c =>
  have:x=y:=by
   obtain⟨i,hi⟩:=Js hx;obtain⟨j,hj⟩:=Js ym;have a1:=bq.mp hi;have a2:=bq.mp hj;rcases zj i j with l|l|l
   .have:=(zS.mp nd) i j (by simpa using a1.1) (by simpa using a2.1) l;simp only[Dt,a1.2,a2.2]at this;exact absurd (c.trans y1.symm) this
   .subst l;exact a1.2.symm.trans a2.2
   have:=(zS.mp nd) j i (by simpa using a2.1) (by simpa using a1.1) l;simp only[Dt,a1.2,a2.2]at this;exact absurd (y1.trans c.symm) this
  subst this;rw[<-e];rfl
 rfl
structure F2(K:Ni)(H:Hp)(fr:JY)(rs:Fr):Prop where
 d:H fr=some (jP fr (rs.map kx))
 k:∀r∈rs,dF K H r.1 [r.2.2.h,r.2.2.n]/\Fd K H r.2.1 r.2.2/\OW r.2.2
 nd:((rs.map kx).map (·.1)).Nodup
def F2.td{fr:JY}{rs:Fr}(h:F2 K H fr rs):TD K H fr (rs.map kx):=⟨.inl h.d,λp hp=>by obtain⟨r,hr,rfl⟩:=ao.mp hp;exact(h.k r hr).1⟩
def F2.same{K:Ni}{H H':Hp}{fr:JY}{rs:Fr}(h:F2 K H fr rs)(s:aI H H'):F2 K H' fr rs:=⟨s _ _ h.d,λr hr=>⟨(h.k r hr).1.same s,(h.k r hr).2.1.same s,(h.k r hr).2.2⟩,h.nd⟩
def Oa(K:Ni)(H:Hp)(rs:Fr):Prop:=∀r∈rs,dF K H r.1 [r.2.2.h,r.2.2.n]/\Fd K H r.2.1 r.2.2/\OW r.2.2
def Oa.kept{K:Ni}{H H':Hp}{rs:Fr}(h:Oa K H rs)(k:ù H H'):Oa K H' rs:=λr hr=>⟨(h r hr).1.kept k,(h r hr).2.1.kept k,(h r hr).2.2⟩
def oY(r:JY×V×Nw):V:=.ref r.1
def NH(r:JY×V×Nw):Nw:=r.2.2
def Ug{rs:Fr}(nd:((rs.map kx).map (·.1)).Nodup):∀N∈rs.map NH,∀M∈rs.map NH,N.h=M.h->N.n=M.n->N=M:=by
 intro N hN M hM e1 e2;obtain⟨a,ha,rfl⟩:=ao.mp hN;obtain⟨b,hb,rfl⟩:=ao.mp hM;obtain⟨i,hi,rfl⟩:=eU ha;obtain⟨j,hj,rfl⟩:=eU hb;have:i=j:=(oM (xs:=(rs.map kx).map (·.1)) (h₀:=by simpa using hi) (h₁:=by simpa using hj) nd).mp (by simp only[Dt];show[(NH rs[i]).h,(NH rs[i]).n]=[(NH rs[j]).h,(NH rs[j]).n];rw[e1,e2])
 subst this;rfl
def hX:aM ["script","cells","left","letters","near","first","letter","news","key","home","far","order"] ["script"] (aH QS):=ac
def XZ{f:JY}{fi fo fc:Jc}(T:Txt K mg t)(F:vA K "law" "law" QS f fd)(ku:ã P w K mg à 1 "_law_left" ["cell"] wF)(lq:ã P w K mg à 7 "_law_letter" ["left","number"] (qb K))(qd:ã P w K mg à 10 "_law_come" ["letters","left"] (wI K))(rE:ã P w K mg à 6 "news_of" ["body"] (Bg K))(cz:ã P w K mg à 3 "news_body" ["news"] (jc K))(oK:ã P w K mg à 5 "_law_alike" ["one","other"] (tH K t.Map))(uZ:cn P w K mg à (oV P w) 1 t.init fi ["self"] (Ff K t.Map))(ua:ú K fi ["self"] [])(uc:cn P w K mg à (oV P w) 1 t.xU fh ["self","news"] (Fg K t.Map))(ud:ú K fh ["self","news"] [])(fG:cn P w K mg à (oV P w) 1 t.ni fn ["self"] (rB K t.Map))(fH:ú K fn ["self"] [])(iU:cn P w K mg à (oV P w) 2 t.nj fw ["self"] (vo K t.Map))(iV:ú K fw ["self"] [])(kQ:cn P w K mg à (oV P w) 2 t.mM fo ["self","name"] (xn K t.Map))(kR:ú K fo ["self","name"] [])(Lu:cn P w K mg à (oV P w) 3 t.A4 fc ["self"] (M3 K t.Map))(Lv:ú K fc ["self"] []):cn P w K mg à (oV P w) 11 f fd ["script"] (Cz K):=by
 refine F.ok1 hX (λvs H Q E h=>?_) (λf bM A á s H vs Q E hr h=>?_)
 .obtain⟨a,ns,rfl,_⟩:=h;rfl
 obtain⟨sc,cs,rfl,hS,lc,q⟩:=h;refine⟨_,aC (aV 1 hX (cP (cU K) (aT (dI K) (pv 0) (bJ (aA aF aD))) jS (bj aF)))
  (aC (aV 2 hX (aO ku hr (aA (ah (aZ K) (pv 1) aF) aD)))
  (aC (yI 3 (Nc:=["k","cells"]) (ix:=[none,some 1]) hX (cq (by rfl) T.cw (aA (cv K T.cS (pv 1)) aD)) (λC fp s H=>⟨bN,(aO lq hr (aA (aO ku hr (aA (ah (aZ K) (pv 1) (pv 0)) aD)) (aA (pv 0) aD)))⟩))
  (aC (ax (bI (nE K (dU hr)) (aO qd hr (aA (pv 3) (aA (pv 2) aD))) (pv 3))
   (aE (aQ jw))
   (aW))
  (aC (yI 4 (Nc:=["letter"]) (ix:=[none]) hX (bH K (pv 3)) (λC fp s H=>⟨(zA (bI jN (ah (ay K) (pv 0) aF) cE)),(pv 0)⟩))
  (aC (aV 5 hX Ep)
  (aC (cu (bH K (pv 4)) (bu 6 hX) (aC (aV 7 hX (aO rE hr (aA (ah (ay K) (pv 6) aF) aD)))
   (aC (aV 8 hX (c5 (aA (ah (ay K) (pv 7) aF) (aA (ah (ay K) (pv 7) aF) aD))))
   (aE (zK K (dU hr) (pv 5) (pv 8) (QA K (dU hr) (pv 5) (pv 8) (pv 7) ⟨rfl,rfl,rfl,rfl⟩) (by rfl))))))
  (aC (aV 9 hX (u3 T.Wu (uZ.mono (by decide)) hr (by rfl) T.Ws ua .nil eG))
  (aC (ax (PW.pt (kX (bI (nE K (dU hr)) (dv (pv 9) T.jB T.vY (iU.mono (by decide)) hr iV .nil eG) (bJ aD)) (kX (bI (nE K (dU hr)) (dv (pv 9) T.jB T.nu (fG.mono (by decide)) hr fH .nil eG) (bJ aD)) (kX (bI y9 (mr (pv 9) T.jB T.xW (kQ.mono (by decide)) hr kR .nil eG (aA cE aD)) eC) (jx (bI (nE K (dU hr)) (dv (dv (pv 9) T.jB T.To (Lu.mono (by decide)) hr Lv .nil eG) T.jB T.nu (fG.mono (by decide)) hr fH .nil eG) (bJ aD)))))))
   (aE (aQ jw))
   (aW))
  (aC (PS.J7 (xG (tu oh rfl (jh (pv 5)) (bu 8 hX)
   (aE (bA (mr (pv 9) T.jB T.FI (uc.mono (by decide)) hr ud .nil eG (aA (kg K (dU hr) (pv 5) (pv 8) (λ_ _=>rfl)) aD)))))))
  (aC (aV 10 hX (u3 T.Wu (uZ.mono (by decide)) hr (by rfl) T.Ws ua .nil eG))
  (aC (aV 11 hX (av Hc (by rfl) T.iI i7 (aA (pv 5) aD)))
  (aC (cu (bH K (aT (dI K) (mD rfl T.iI T.uR (pv 11)) (cP (cU K) (pv 11) jS (bj aF)))) (bu 8 hX) (aE (bA (mr (pv 10) T.jB T.FI (uc.mono (by decide)) hr ud .nil eG (aA (aO rE hr (aA (aO cz hr (aA (kg K (dU hr) (pv 5) (pv 8) (λ_ _=>rfl)) aD)) aD)) aD)))))
  (aE (aQ (aO oK hr (aA (pv 9) (aA (pv 10) aD))))))))))))))))),?_⟩
 have hsz:=bZ;refine⟨_,rfl,ò,λa1 Tq=>?_⟩;have s1:=(aI.refl H).new (o:=.lst [.int 0]) Tq;refine⟨sc,a1,_,_,rfl,rfl,s1.seq hS,aX.of aB,by rw[aJ];show _+1<=_;lia,λa2 Tr=>?_⟩;have s2:=s1.new (o:=.lst (cs.map V.int++[.int 0])) Tr;refine⟨_,rfl,a2,_,rfl,aX.of aB,λce Xn=>?_⟩;have ecs:dN (cs.map V.int++[.int 0]) none (some 8)=((cs++[0]).take 8).map V.int:=by rw[FU (by decide),ma,bD];rfl
 rw[ecs];obtain⟨as,has⟩:∃as,as=(cs++[0]).take 8:=⟨_,rfl⟩;have al:1<=as.length/\as.length<=8:=by rw[has,cc,bV];show 1<=min 8 (_+1)/\_;lia
 rw[<-has];have s3:=s2.new (o:=.lst (as.map V.int)) Xn;have e3:(ü (ü (ü H a1 (.lst [.int 0])) a2 (.lst (cs.map V.int++[.int 0]))) ce (.lst (as.map V.int))) ce=some (.lst (as.map V.int)):=aB;generalize ü (ü (ü H a1 (.lst [.int 0])) a2 (.lst (cs.map V.int++[.int 0]))) ce (.lst (as.map V.int))=H3 at s3 e3 ⊢;refine⟨_,rfl,ce,_,_,_,rfl,rfl,aX.of e3,xc (i:=0) (by lia) rfl,_,rfl,λlf H4 s4 nlf hlf=>?_⟩;have e4:=s4 _ _ e3;refine⟨_,rfl,ce,_,rfl,.inl (aX.of e4),_,rfl,by rw[aJ];lia,by rw[aJ];lia,λD hD=>?_⟩;rw[aJ];refine j3 (lo:=0) (n:=((as.length:Nat):Int).toNat) (λi Z H'=>∃(v:Option V)(zs:Lz),Z=[v,some (.ref ce)]/\aI H4 H'/\H' D=some (.lst (zs.map uh))/\xp K H' zs/\(∀z∈zs,NwL z)/\zs.length=i) ⟨none,[],rfl,(aI.refl _).new hD,aB,λz hz=>absurd hz bE,λz hz=>absurd hz bE,rfl⟩ ?_ ?_
 .rintro i Z H' N hN hi ⟨v,zs,rfl,s5,e5,lz,nz,zl⟩;refine cA ?_;refine⟨_,rfl,_,rfl,ce,_,_,_,rfl,rfl,aX.of (s5 _ _ e4),xc (i:=i) (by lia) (by lia),_,rfl,λl1 H6 s6 nl1 Hq=>?_⟩;refine⟨_,rfl,l1,0+(i:Nat),rfl,Hq,by lia,by lia,λr H7 L st lt ok hN7=>?_⟩;have s57:aI H' H7:=λb o e=>st.m b o (λz=>by rw[z,nl1]at e;cases e) (s6 _ _ e);have e7:=s57 _ _ e5;have kp:=mV (o:=.lst (zs.map uh++[V.ref r])) (oH e7);refine⟨_,e7,by rw[aJ];lia,hN _ _ ⟨_,zs++[(r,L)],rfl,(s5.trans s57).put hD,by rw[aB,bD];rfl,((lz.kept (ù.same s57)).kept kp).snoc ⟨lt.kept kp,ok⟩,λz hz=>?_,by rw[bV,zl];rfl⟩⟩;rcases cH.mp hz with h|h
  .exact nz z h
  rw[bX.mp h];exact hN7
 rintro Z H5 ⟨v,zs,rfl,s5,e5,lz,nz,zl⟩;have aDy:qW H5 lf:=hlf.same s5;have RK:D≠lf:=fI.Ln hlf hD;refine⟨_,rfl,_,rfl,D,lf,zs,rfl,aX.of e5,RK,lz,by lia,aDy,λr H6 ys JV e6 lz6 ye=>?_⟩;have lz5:=lz.kept JV.kept;have e56:=JV.m _ _ RK e5;have E1:=lzD (aX.of e6) lz6;have E2:=lzD (aX.of e56) lz5;rw[<-ye]at E2;refine⟨_,rfl,_,_,E1,E2,_,rfl,?_⟩;rw[aL rfl,E1.eqv];refine(show if(!true)=true then _ else _ from c9 ?_);refine⟨_,rfl,D,rfl,⟨_,aX.of e56⟩,λD2 Bx=>?_⟩;refine iR (K:=K) (a:=D) (xs:=zs.map uh) (λi Z H'=>∃(v:Option V)(ws:Lz),Z=[v]/\aI H6 H'/\H' D2=some (.lst (ws.map uh))/\(∀z∈ws,z∈zs/\z.2.kind="news")/\ws.length<=i) ⟨none,[],rfl,(aI.refl _).new Bx,aB,λz hz=>absurd hz bE,ae _⟩ (λi Z H' _ h_=>by obtain⟨_,_,_,s,_⟩:=h_;exact aX.of (s _ _ e56)) ?_ ?_
 .rintro i y Z H' N hN hi ⟨v,ws,rfl,s7,e7,hw,wl⟩;rw[bh]at hi;obtain⟨z,ez,rfl⟩:=gk.mp hi;have hz:=bL ez;obtain⟨_,_,_,z1,_⟩:=((lz5 z hz).1.same s7);refine turn_if ?_;refine⟨_,rfl,z.1,_,_,_,rfl,rfl,z1,rfl,rfl,_,rfl,?_⟩;by_cases c:z.2.kind="news"
  .refine fe (by rw[c]) ?_;have il:i<zs.length:=(bq.mp ez).1;refine⟨_,rfl,_,e7,by rw[aJ];lia,hN _ _ ⟨_,ws++[z],rfl,s7.put Bx,by rw[aB,bD];rfl,λx hx=>?_,by rw[bV];show _+1<=_;lia⟩⟩;rcases cH.mp hx with h|h
   .exact hw x h
   rw[bX.mp h];exact⟨hz,c⟩
  refine eT (λe=>c (V.str.inj e)) ?_;exact hN _ _ ⟨_,ws,rfl,s7,e7,hw,by lia⟩
 rintro Z H7 ⟨v,ws,rfl,s7,e7,hw,wl⟩;rw[aJ]at wl;have lz7:=lz5.kept (ù.same s7);intro fr MN;have s8:=(aI.refl H7).new (o:=jP fr []) MN;have f8:F2 K (ü H7 fr (jP fr [])) fr []:=⟨aB,λr hr=>absurd hr bE,.nil⟩;generalize ü H7 fr (jP fr [])=H8 at s8 f8 ⊢;have e78:=s8 _ _ e7
 let I:Nat->_->Hp->Prop:=λi Z H'=>∃(v6 v7 v8:Option V)(rs:Fr),Z=[some (.ref sc),some (.ref ce),some (.ref lf),some (.ref D),some (.ref D2),some (.ref fr),v6,v7,v8,none,none,none]/\aI H7 H'/\F2 K H' fr rs/\rs.length<=i
 refine⟨_,rfl,D2,rfl,⟨_,aX.of e78⟩,dq (K:=K) (a:=D2) (xs:=ws.map uh) I ⟨none,none,none,[],rfl,s8,f8,ae _⟩ (λi Z H' _ h_=>by obtain⟨_,_,_,_,_,s,_⟩:=h_;exact aX.of (s _ _ e7)) ?_ ?_⟩
 .rintro i y Z H9 hi ⟨v6,v7,v8,rs,rfl,s9,f9,rl⟩;rw[bh]at hi;obtain⟨z,ez,rfl⟩:=gk.mp hi;have il:i<ws.length:=(bq.mp ez).1;obtain⟨hzs,hk⟩:=hw z (bL ez);obtain⟨N,cN,eN⟩:=nz z hzs hk;obtain⟨b1,b2,b3,z1,_,_,z4⟩:=(lz7 z hzs).1.same s9;rw[eN]at z4;refine⟨_,rfl,z.1,_,_,_,rfl,rfl,z1,rfl,b3,N,rfl,z4,cN,λrn HA sA nA=>?_⟩;obtain⟨a,p1,q1,us,ea,h1,_,_,_,_⟩:=nA.out;cases ea;refine⟨_,rfl,rn,_,_,.int N.h,rfl,rfl,h1,rfl,_,rfl,rn,_,_,.int N.n,rfl,rfl,h1,rfl,ó,λkp hkp=>?_⟩;have sB:=sA.new (o:=.tup [.int N.h,.int N.n]) hkp;have tB:dF K (ü HA kp (.tup [.int N.h,.int N.n])) kp [N.h,N.n]:=⟨.inl ⟨N.h,N.n,rfl,bO.of aB⟩⟩;have nB:=nA.same ((aI.refl HA).new (o:=.tup [.int N.h,.int N.n]) hkp);have fB:=f9.same sB;generalize ü HA kp (.tup [.int N.h,.int N.n])=HB at sB tB nB fB ⊢;refine⟨_,rfl,fr,_,rfl,fB.td,_,rfl,_,rfl,kp,_,[N.h,N.n],rfl,fB.td,tB,_,rfl,_,rfl,fr,kp,_,[N.h,N.n],rfl,rfl,fB.td,fB.d,tB,by rw[aJ];lia,?_⟩;have SB:=s9.trans sB;cases ev:ir (rs.map kx) [N.h,N.n]with
  |some v =>
   rw[show(some v).getD (V.ref rn)=v from rfl,OZ fB.nd ev];have e:ü HB fr (jP fr (rs.map kx))=HB:=by
    funext b
    by_cases c:b=fr
    .subst c;rw[aB,fB.d]
    rw[aN c]
   rw[e];exact⟨_,_,_,rs,rfl,SB,fB,by lia⟩
  |none =>
   have nk:[N.h,N.n]∉(rs.map kx).map (·.1):=λh=>by have:=dX (rs.map kx) [N.h,N.n];rw[ev,bw h]at this;cases this
   rw[show(none:Option V).getD (V.ref rn)=V.ref rn from rfl,vO nk];have nt:∀ys,¬Rd HB fr (.tup ys):=λys e=>(by rcases e with e|⟨u,e⟩<;>(rw[fB.d]at e;cases e));have kp2:=mV (o:=jP fr (rs.map kx++[([N.h,N.n],kp,V.ref rn)])) nt;refine⟨_,_,_,rs++[(kp,V.ref rn,N)],rfl,SB.put MN,⟨by rw[aB,bD];rfl,λr hr=>?_,?_⟩,by rw[bV];show _+1<=_;lia⟩
   .rcases cH.mp hr with h|h
    .exact⟨(fB.k r h).1.kept kp2,(fB.k r h).2.1.kept kp2,(fB.k r h).2.2⟩
    rw[bX.mp h];exact⟨tB.kept kp2,nB.kept kp2,cN⟩
   rw[bD,bD];refine uv.mpr ⟨fB.nd,by simp,λa ha b hb e=>nk ?_⟩;have eb:b=[N.h,N.n]:=bX.mp hb;rw[<-eb,<-e];exact ha
 rintro Z H9 ⟨v6,v7,v8,rs,rfl,s9,f9,rl⟩;rw[aJ]at rl;have rl8:rs.length<=8:=by lia
 have un:=Ug f9.nd;clear s9 e78 f8 s8 e7 lz7;refine λx tx Zn htx AX=>?_;have sA0:aI H9 (ü (ü H9 tx (.own x)) x (.ins t.Map tx [])):=by
  have z:(ü H9 tx (.own x)) x=none:=by rw[aN (bS AX)];exact Zn
  exact((aI.refl H9).new htx).new z
 refine⟨x,tx,rfl,aB,λd HA hd0 mmA Xy=>⟨rfl,?_⟩⟩;have sA:aI H9 HA:=λb o e=>mmA b o (λz=>by rw[bX.mp z,Zn]at e;cases e) (sA0 b o e);have fA:=f9.same sA;have nfd:fr≠d:=λz=>by rw[<-z,sA0 _ _ f9.d]at hd0;cases hd0
 clear sA0 mmA hd0;obtain⟨dx,hx⟩:=Xy.o;refine⟨_,rfl,x,dx,_,rfl,hx,rfl,x,d,[],rfl,Xy,bt _,λm hm=>absurd hm bE,λr1 HB ts sB _ wB mB _ _=>?_⟩;have te:ts=[]:=List.eq_nil_iff_forall_not_mem.mpr λt ht=>by obtain⟨_,m1,h1,_⟩:=(mB t).mp ht;cases h1
 subst te;obtain⟨wz,w1,_,w3⟩:=wB;obtain rfl:wz=[]:=De.mp w3;refine⟨ñ,λl1 Hq=>?_⟩;obtain⟨E1,E2⟩:=XY (K:=K) w1 Hq;have sC:=sB.new (o:=.lst []) Hq;generalize ü HB l1 (.lst [])=HC at E1 E2 sC ⊢;refine⟨_,_,E1,E2,_,rfl,?_⟩;rw[aL rfl,E1.eqv];refine(show if(!true)=true then _ else _ from c9 ?_);refine⟨_,rfl,x,dx,_,rfl,sC _ _ hx,rfl,x,d,[],rfl,Xy.same sC,bt _,λr2 HD us sD _ eD pm _=>?_⟩;obtain rfl:=List.Perm.eq_nil pm;refine⟨ñ,λl2 Gf=>?_⟩;obtain⟨E1,E2⟩:=XY (K:=K) eD Gf;have sE:=(sC.trans sD).new (o:=.lst []) Gf;generalize ü HD l2 (.lst [])=HE at E1 E2 sE ⊢;refine⟨_,_,E1,E2,_,rfl,?_⟩;rw[aL rfl,E1.eqv];refine(show if(!true)=true then _ else _ from c9 ?_);refine⟨_,rfl,x,dx,_,rfl,sE _ _ hx,rfl,x,d,[],("a":Str).cps.toList,by unfold qz ai;simp,Xy.same sE,bt _,λh HF sF Kw=>?_,λHF sF _=>?_⟩
 .obtain⟨m,hm,_⟩:=Kw;cases hm
 refine⟨rfl,_,rfl,?_⟩;refine(show if(!true)=true then _ else _ from c9 ?_);have sF:=sE.trans sF;refine⟨_,rfl,x,dx,_,rfl,sF _ _ hx,rfl,x,d,rfl,Xy.same sF,λx' d' HG sG hMG=>?_⟩;obtain⟨dx',WX⟩:=hMG.o;refine⟨x',dx',_,rfl,WX,rfl,x',d',[],rfl,hMG,bt _,λr2 HI us sI _ eI pm _=>?_⟩;obtain rfl:=List.Perm.eq_nil pm;refine⟨ñ,λl2 Gf=>?_⟩;obtain⟨E1,E2⟩:=XY (K:=K) eI Gf;have sJ:=((sF.trans sG).trans sI).new (o:=.lst []) Gf;generalize ü HI l2 (.lst [])=HJ at E1 E2 sJ ⊢;refine⟨_,_,E1,E2,_,rfl,?_⟩;rw[aL rfl,E1.eqv];refine(show if(!true)=true then _ else _ from c9 ?_);have fJ:=fA.same sJ;have hMJ:=Xy.same sJ;clear E1 E2 sJ sI sG sF sE sC eI hMG;refine⟨_,rfl,fr,_,rfl,fJ.d,λu hu=>?_⟩;have kJ:=gM (o:=u) (vm.UJ fJ.d);have rK:=Oa.kept fJ.k kJ;have mJ:cB [fr] HJ (ü HJ fr u):=cB.refl.upd (.inl bp);have hMK:=hMJ.mods mJ (by rw[bX];rintro rfl;obtain⟨_,z⟩:=hMJ.o;rw[fJ.d]at z;cases z) (by rw[bX];exact bS nfd) λa ha=>by rw[bX.mp ha];exact vm.UJ fJ.d
 have eK:=@aB HJ fr u;generalize ü HJ fr u=HK at rK hMK eK ⊢
 let I2:Nat->_->Hp->Prop:=λi Z H'=>∃(v8:Option V)(ms:Ms),Z=[some (.ref sc),some (.ref ce),some (.ref lf),some (.ref D),some (.ref D2),some (.ref fr),v6,v7,v8,some (.ref x),none,none]/\H' fr=some u/\Oa K H' rs/\i0 K t.Map H' x d ms/\Tn ms ((rs.take i).map NH)/\ms.length<=i
 refine nG (d:=fr) (u:=u) (xs:=rs.map kx) I2 ⟨_,[],rfl,eK,rK,hMK,Tn.nil,ae _⟩ (λi Z H' _ h_=>by obtain⟨_,_,_,e,_⟩:=h_;exact e) ?_ ?_
 .rintro i p Z H' hi ⟨v8,ms,rfl,e',r',Qq,tn,ml⟩;rw[bh]at hi;obtain⟨r,er,rfl⟩:=gk.mp hi;have Ou:=bL er;have il:i<rs.length:=(bq.mp er).1;have td:TD K H' fr (rs.map kx):=⟨.inr ⟨u,e',hu⟩,λp hp=>by obtain⟨q,hq,rfl⟩:=ao.mp hp;exact(r' q hq).1⟩
  obtain⟨dy,hy⟩:=Qq.o;have VM:(rs.take (i+1)).map NH=(rs.take i).map NH++[NH r]:=by rw[þ er,bD];rfl
  refine⟨_,rfl,x,dy,_,rfl,hy,rfl,_,rfl,_,rfl,fr,r.1,_,[r.2.2.h,r.2.2.n],r.2.1,rfl,rfl,td,(r' r Ou).1,RU (p:=kx r) f9.nd (ao.mpr ⟨r,Ou,rfl⟩),x,d,ms,r.2.1,r.2.2,rfl,Qq,(r' r Ou).2.1,by lia,λnw HB mB hMB=>?_,λnn=>?_⟩
  .have kp:=mB.kept λa ha=>(by rw[bX.mp ha];exact vm.dk Qq.d);have pl:=Iw ms r.2.1 r.2.2;exact⟨_,_,rfl,mB _ _ (by rw[bX];exact nfd) e',r'.kept kp,hMB,by rw[VM];exact tn.put nw,by lia⟩
  exact⟨_,_,rfl,e',r',Qq,by rw[VM];exact tn.keep nn,by lia⟩
 rintro Z HL ⟨v8,ms,rfl,eL,rL,hML,tn,ml⟩;rw[aJ]at tn ml;rw[eV]at tn;refine⟨fr,rs.map kx,u,hu,eL,?_⟩;have kL:=gM (o:=jP fr (rs.map kx)) (vm.dz hu eL);have mL:cB [fr] HL (ü HL fr (jP fr (rs.map kx))):=cB.refl.upd (.inl bp);have fM:F2 K (ü HL fr (jP fr (rs.map kx))) fr rs:=⟨aB,rL.kept kL,f9.nd⟩;have hMM:=hML.mods mL (by rw[bX];rintro rfl;obtain⟨_,z⟩:=hMK.o;rw[eK]at z;obtain⟨_,_,_,_,_,_,_,_,rfl⟩:=hu;cases z) (by rw[bX];exact bS nfd) λa ha=>by rw[bX.mp ha];exact vm.dz hu eL
 generalize ü HL fr (jP fr (rs.map kx))=HM at fM hMM ⊢;refine λy ty hy0 Yf aD6=>?_;have sN0:aI HM (ü (ü HM ty (.own y)) y (.ins t.Map ty [])):=by
  have z:(ü HM ty (.own y)) y=none:=by rw[aN (bS aD6)];exact hy0
  exact((aI.refl HM).new Yf).new z
 refine⟨y,ty,rfl,aB,λg HN hg0 mmN hGN=>⟨rfl,?_⟩⟩;have sN:aI HM HN:=λb o e=>mmN b o (λz=>by rw[bX.mp z,hy0]at e;cases e) (sN0 b o e);have fN:=fM.same sN;have hg:=sN0.free hg0;have hMN:=hMM.same sN;have ndg:d≠g:=aP hMM.d hg;have nxg:x≠g:=by obtain⟨_,z⟩:=hMM.o;exact aP z hg
 have nfg:fr≠g:=aP fM.d hg;refine⟨_,rfl,fr,_,rfl,fN.d,λol Kw=>?_⟩;have eol:(rs.map kx).map (λk=>V.ref k.2.1)=rs.map oY:=by rw[bB];rfl
 rw[eol];obtain⟨HO,ja,sO,eO⟩:=nL (aI.refl HN) (o:=.lst (rs.map oY)) Kw;rw[ja];refine⟨_,rfl,ol,_,rfl,aX.of eO,λrv hrv=>?_⟩;have sP:=sO.new (o:=.lst (rs.map oY).reverse) hrv;have eP0:=@aB HO rv (.lst (rs.map oY).reverse);have eP:=((aI.refl HO).new (o:=.lst (rs.map oY).reverse) hrv) _ _ eO;generalize ü HO rv (.lst (rs.map oY).reverse)=HP at sP eP0 eP ⊢;refine⟨_,rfl,_,rfl,ol,_,rfl,aX.of eP,λsl Rv=>?_⟩;have ecu:dN (rs.map oY) none (some 2)=(rs.take 2).map oY:=by rw[FU (by decide),ma];rfl
 rw[ecu];have sQ:=sP.new (o:=.lst ((rs.take 2).map oY)) Rv;have eQ0:=((aI.refl HP).new (o:=.lst ((rs.take 2).map oY)) Rv) _ _ eP0;have eQ:=@aB HP sl (.lst ((rs.take 2).map oY));generalize ü HP sl (.lst ((rs.take 2).map oY))=HQ at sQ eQ0 eQ ⊢;refine⟨rv,sl,_,_,rfl,rfl,aX.of eQ0,aX.of eQ,by rw[rT,aJ,aJ,cc];lia,λql hql=>?_⟩;obtain⟨qs,hqs⟩:∃qs,qs=rs.reverse++rs.take 2:=⟨_,rfl⟩;have eqq:(rs.map oY).reverse++(rs.take 2).map oY=qs.map oY:=by rw[hqs,bD,List.map_reverse]
 rw[eqq];have aIP:qs.length<=10:=by rw[hqs,bV,rT,cc];lia
 have Xa:∀r,r∈qs↔r∈rs:=λr=>by rw[hqs,cH,List.mem_reverse];exact⟨λh=>h.elim id λh=>zZ h,.inl⟩
 obtain⟨HR,ja,sR,eR⟩:=nL sQ (o:=.lst (qs.map oY)) hql;rw[ja];have nqg:ql≠g:=λz=>by rw[z,sQ _ _ hGN.d]at hql;cases hql
 let I3:Nat->_->Hp->Prop:=λi Z H'=>∃(v8:Option V)(ks:Ms),Z=[some (.ref sc),some (.ref ce),some (.ref lf),some (.ref D),some (.ref D2),some (.ref fr),v6,v7,v8,some (.ref x),some (.ref y),some (.ref ol)]/\H' ql=some (.lst (qs.map oY))/\F2 K H' fr rs/\i0 K t.Map H' x d ms/\i0 K t.Map H' y g ks/\Tn ks ((qs.take i).map NH)/\ks.length<=i
 refine⟨ql,rfl,⟨_,aX.of eR⟩,dq (K:=K) (a:=ql) (xs:=qs.map oY) I3 ⟨_,[],rfl,eR,fN.same sR,hMN.same sR,hGN.same sR,Tn.nil,ae _⟩ (λi Z H' _ h_=>by obtain⟨_,_,_,e,_⟩:=h_;exact aX.of e) ?_ ?_⟩
 .rintro i z Z H' hi ⟨v8,ks,rfl,e',f',Qq,hG',tk,kl⟩;rw[bh]at hi;obtain⟨r,er,rfl⟩:=gk.mp hi;have Ou:=(Xa r).mp (bL er);have il:i<qs.length:=(bq.mp er).1;obtain⟨dy,hy⟩:=hG'.o;have VM:(qs.take (i+1)).map NH=(qs.take i).map NH++[NH r]:=by rw[þ er,bD];rfl
  obtain⟨g1,g2,g3⟩:=f'.k r Ou;refine⟨_,rfl,y,dy,_,rfl,hy,rfl,_,rfl,_,rfl,fr,r.1,_,[r.2.2.h,r.2.2.n],r.2.1,rfl,rfl,f'.td,g1,RU (p:=kx r) f9.nd (ao.mpr ⟨r,Ou,rfl⟩),r.2.1,r.2.2,rfl,g2,g3,λb HS sS eS=>?_⟩;refine⟨b,r.2.2,rfl,eS,g3,λn HT sT nT=>?_⟩;have S:=sS.trans sT;refine⟨y,g,ks,.ref n,r.2.2,rfl,hG'.same S,nT,by lia,λnw HB mB hGB=>?_,λnn=>?_⟩
  .have nt:∀a∈[g],vm HT a:=λa ha=>(by rw[bX.mp ha];exact vm.dk (S _ _ hG'.d));have kp:=mB.kept nt;have pl:=Iw ks (.ref n) r.2.2;have fT:=f'.same S;exact⟨_,_,rfl,mB _ _ (by rw[bX];exact nqg) (S _ _ e'),⟨mB _ _ (by rw[bX];exact nfg) fT.d,Oa.kept fT.k kp,f9.nd⟩,(Qq.same S).mods mB (by rw[bX];exact nxg) (by rw[bX];exact ndg) nt,hGB,by rw[VM];exact tk.put nw,by lia⟩
  exact⟨_,_,rfl,S _ _ e',f'.same S,Qq.same S,hG'.same S,by rw[VM];exact tk.keep nn,by lia⟩
 rintro Z HZ ⟨v8,ks,rfl,_,fZ,hMZ,hGZ,tk,kl⟩;rw[aJ,eV]at tk;have al:=tn.alk tk hMZ.nd hGZ.nd (λN=>⟨λh=>by
  obtain⟨r,Ou,rfl⟩:=ao.mp h;exact ao.mpr ⟨r,(Xa r).mpr Ou,rfl⟩,λh=>by
  obtain⟨r,Ou,rfl⟩:=ao.mp h;exact ao.mpr ⟨r,(Xa r).mp Ou,rfl⟩⟩) un
 have okN:∀m∈ms,CJ m.2:=λm hm=>by obtain⟨r,Ou,e⟩:=ao.mp (tn.1 m hm);rw[<-e];exact(fZ.k r Ou).2.2.ok
 exact⟨_,rfl,_,rfl,x,d,y,g,ms,ks,rfl,hMZ,hGZ,al,by lia,okN,λH' _=>q _⟩
def Uh{f:JY}(T:Txt K mg t)(F:vA K "law" "law" QS f fd)(Ob:aY K mg "is_sign" xN)(Iy:aY K mg "look_sign" pH)(Iz:aY K mg "look_unit" pI)(Ui:aY K mg "power" E8)(Oc:aY K mg "inverse" xO)(Lw:aY K mg "exponent" uK)(Lx:aY K mg "equation" uL)(CZ:aY K mg "pivot_place" lH)(I0:aY K mg "exchanged" pJ)(Ly:aY K mg "lessened" nI)(Od:aY K mg "cleared" xP)(RV:aY K mg "solved" vT)(uj:vE K mg "look_signs_cells" "look_signs" gP)(JA:aY K mg "look_cell" pK)(L0:aY K mg "value_at" uM)(L1:aY K mg "troubles" uN)(JB:aY K mg "is_sealed" pL)(Oe:aY K mg "carried" qr)(RW:aY K mg "sealed" A0)(F3:aY K mg "lone_place" nJ)(Of:aY K mg "is_root" xQ)(y0:aY K mg "turned_places" jA)(L3:aY K mg "turns_at" nK)(RX:aY K mg "mended" A1)(Ca:aY K mg "letter_sign" lJ)(Cb:aY K mg "sign_letter" lK)(F4:aY K mg "text_signs" nO)(F5:aY K mg "signs_text" nP)(Bn:aY K mg "number_signs" j8)(Bo:aY K mg "signs_number" j9)(F6:aY K mg "look_piece" nQ)(L4:aY K mg "is_house" uO)(qe:vE K mg "look_signs_letters" "look_signs" eZ)(L5:aY K mg "look_way" uP)(Cc:aY K mg "made_letter" lL)(Bp:aY K mg "letter_signs" kA)(JC:aY K mg "letter_of" pM)(JD:aY K mg "pieces_of" pN)(F7:aY K mg "look_house" nR)(Cd:aY K mg "look_bounds" lM)(Ce:aY K mg "look_unlike" lN)(Og:aY K mg "is_name" xR)(F8:aY K mg "look_names" nU)(JE:aY K mg "made_wire" pO)(JF:aY K mg "made_near" pP)(JG:aY K mg "made_news" pQ)(F9:aY K mg "wire_signs" nV)(Oh:aY K mg "wire_of" xS)(JH:aY K mg "news_body" pR)(L6:aY K mg "names_of" uQ)(Oi:aY K mg "news_of" xT)(GA:aY K mg "lengths_of" nW)(GB:aY K mg "heights_to" nX)(GC:aY K mg "next_house" jX)(JI:aY K mg "least_way" pT)(RY:aY K mg "way_of" A2)(GD:aY K mg "way_length" nY)(Bq:aY K mg "goes_from_to" kB)(Br:aY K mg "heights_hold" g9)(JJ:aY K mg "way_holds" pU)(rR:aY K mg "are_rising_houses" fg)(GF:aY K mg "side_holds" jY)(GG:aY K mg "way_judged" nZ)(JK:aY K mg "_law_left" pV)(JL:aY K mg "_law_next" pW)(GH:aY K mg "_law_turns" ng)(Cf:aY K mg "_law_turned" lO)(Cg:aY K mg "_law_unlike" lP)(JM:aY K mg "_law_news" pX)(Ci:aY K mg "_law_letter" lQ)(JN:aY K mg "_law_sent" pY)(JO:aY K mg "_law_come" pZ)(GI:aY K mg "_law_alike" nh):cn P w K mg à (oV P w) 11 f fd ["script"] (Cz K):=by obtain⟨RZ,y4⟩:=T.OI;obtain⟨aAY,Ra⟩:=T.fi;obtain⟨aAZ,Rb⟩:=T.Wv;obtain⟨aBa,Rc⟩:=T.Ww;obtain⟨aBb,Rf⟩:=T.Wx;obtain⟨aAe,Oj⟩:=T.Tj;obtain⟨Xz,L7⟩:=T.QV;obtain⟨aBc,Rg⟩:=T.Wy;have cJ:=LM (P:=P) (w:=w) (à:=à) Ob T;have cx:=FK Iy T cJ;have gc:=FN Iz T cx;have gH:=QX Ui T cx;have jj:=LO Oc T gc gH;have uW:=IQ Lw T gc;have cK:=rO uj T cJ;have qB:=FP JA T cK;have uT:=IS (P:=P) (w:=w) (à:=à) L0 T;have iL:=IT L1 T qB uT gH;have qF:=FR JB T iL;have xX:=LQ (P:=P) (w:=w) (à:=à) Oe T;have Bk:=OJ RW T cK xX;have uV:=IU (P:=P) (w:=w) (à:=à) Lx T;have lT:=BB (P:=P) (w:=w) (à:=à) CZ T;have qE:=FT (P:=P) (w:=w) (à:=à) I0 T;have uU:=IW (P:=P) (w:=w) (à:=à) Ly T;have xZ:=LR Od T jj uU;have mP:=OL RV T uV lT qE xZ;have n6:=CC F3 T uW jj;have xb:=LV (P:=P) (w:=w) (à:=à) Of T;have jD:=xa y0 T mP n6 xb gH;have uX:=IY L3 T mP gH;have wH:=OM RX T iL qF jD uX;have ba:=yo (P:=P) (w:=w) (à:=à) Bn T;have bc:=yt Bo T cx;have de:=Ic (P:=P) (w:=w) (à:=à) L4 T;have bQ:=oX qe T cJ;have uY:=Ie L5 T de;have d8:=BG Cc T bQ uY;have kP:=yu Bp T ba;have qZ:=FV JC T bQ bc d8;have n8:=CF F6 T cJ;obtain⟨lj,lp⟩:=BI (P:=P) (w:=w) (à:=à) T y4;obtain⟨Lp,Lq⟩:=T8 T Rb n8;have qY:=FW (P:=P) (w:=w) (à:=à) JD T;have fP:=CH F7 T de;have dC:=BN (P:=P) (w:=w) (à:=à) Cd T;have eB:=BP (P:=P) (w:=w) (à:=à) Ce T;have xg:=LZ (P:=P) (w:=w) (à:=à) Og T;have oA:=CI F8 T eB xg;have qL:=FX JE T fP dC;have qM:=FZ JF T qL eB;have gd:=Fc JG T fP dC oA qM;obtain⟨uZ,ua⟩:=UE (P:=P) (w:=w) (à:=à) T Ra;obtain⟨uc,ud⟩:=UG (P:=P) (w:=w) (à:=à) T Rc;obtain⟨fG,fH⟩:=UH (P:=P) (w:=w) (à:=à) T Rf;obtain⟨iU,iV⟩:=Qx T Oj fG fH;obtain⟨kQ,kR⟩:=OR T L7 fG fH;obtain⟨Lu,Lv⟩:=UN T Rg uZ ua fG fH uc ud;have fQ:=CK GA T iU iV;have df:=CL (P:=P) (w:=w) (à:=à) GB T;have oB:=CN (P:=P) (w:=w) (à:=à) GC T;have qN:=Fk JI T oB;have wL:=OU RY T fQ df qN;have oC:=CO (P:=P) (w:=w) (à:=à) GD T;have kK:=yw (P:=P) (w:=w) (à:=à) Bq T;have kM:=yx Br T df;have qQ:=Fl JJ T kK kM oC;have fk:=qP rR T de;have oE:=CQ GF T fk;have oJ:=CS GG T fQ qQ oE;have lY:=Ba (P:=P) (w:=w) (à:=à) Ca T;have lZ:=Bc (P:=P) (w:=w) (à:=à) Cb T;have oG:=CT F4 T lY;have oI:=CU F5 T lZ;have oF:=CV F9 T ba;have xo:=Ll Oh T bc;have cz:=Fs JH T ba oF oG;have ug:=Iu L6 T oI;have rE:=Lm Oi T cJ xo bc ug gd cz;have ku:=Fu (P:=P) (w:=w) (à:=à) JK T;have ag:=Fv (P:=P) (w:=w) (à:=à) JL T;have dE:=Bh Cg T ag;have jg:=CW GH T ag;have iX:=Bi (P:=P) (w:=w) (à:=à) Cf T;have qa:=Fx JN T Bk wH ag jg iX;have qd:=Fy JO T qY kP qZ qa lj lp Lp Lq;have qc:=Fz JM T ag dE gd;have lq:=Bl Ci T ag dE qc cz d8;have oK:=CY GI T fG fH iU iV kQ kR wL oJ;exact XZ T F ku lq qd rE cz oK uZ ua uc ud fG fH iU iV kQ kR Lu Lv
end
end K85
namespace K85
open PySem L2 PyProof.Rows
def aAf{K:Ni}{mg:Str->Option JZ}{a0 a1 a2 a3 a4 a5 a6 a7 a8 a9 a10 a11:JY}(h:Txt K mg ⟨a0,a1,a2,a3,a4,a5,a6,a7,a8,a9,a10,a11⟩):∃t,Txt K mg t:=⟨_,h⟩
def aAg{K:Ni}{h:Heap}{mg:Str->Option JZ}{x:Str}{c:Tok->JZ}{tk:Tok}(KX:K.In h)(G:h.Ns mainGlobals mg)(z:W.nsIn K mainGlobals x=some (some (c tk))):∃tk,mg x=some (c tk):=⟨_,D9 KX G z⟩
def aAh{K:Ni}{x qual:Str}{st:Stmt}{f:JY}{oc:JZ}{od an:Option JY}{GN:Array (Option JZ)}{kV doc pm bM ct:JZ}(l:K.lookup f=some ⟨oc,od,.func (W.fnOf x qual (gx st) (dG st) (aH st) .none kV doc pm an bM ct),GN⟩)(c:W.codeIn K bM qual=true)(k:W.keepIn K (.ref f)=true):∃fd,vA K x qual st f fd:=⟨_,KY l c k⟩
def L8{K:Ni}{a:JY}{o:Option JY}{k0 k1 k2 k3 k4 k5:Tok}{n:Nat}{os:Array (Option JZ)}(h:K.lookup a=some ⟨.type "tuple",o,.seq #[.int (21) k0,.int (80) k1,.int (53) k2,.int (2) k3,.int (55) k4,.int (63) k5] n,os⟩):Na K a [V.int (21),V.int (80),V.int (53),V.int (2),V.int (55),V.int (63)]:=⟨⟨_,_,_,h,rfl,rfl,(zz6),(.cons ⟨_,rfl⟩ (.cons ⟨_,rfl⟩ (.cons ⟨_,rfl⟩ (.cons ⟨_,rfl⟩ (.cons ⟨_,rfl⟩ (.cons ⟨_,rfl⟩ .nil))))))⟩⟩
def Rh{K:Ni}{a:JY}{k0 k1 k2 k3 k4:Tok}{n:Nat}{os:Array (Option JZ)}(h:K.lookup a=some ⟨.type "tuple",none,.seq #[.str "news" k0,.str "part" k1,.str "had" k2,.str "ask" k3,.str "answer" k4] n,os⟩):Na K a [V.str "news",V.str "part",V.str "had",V.str "ask",V.str "answer"]:=⟨⟨_,_,_,h,rfl,rfl,(zz5),(.cons ⟨_,rfl⟩ (.cons ⟨_,rfl⟩ (.cons ⟨_,rfl⟩ (.cons ⟨_,rfl⟩ (.cons ⟨_,rfl⟩ .nil)))))⟩⟩
def Ri{K:Ni}{a:JY}{d:Data}{os:Array (Option JZ)}(h:K.lookup a=some ⟨.type "tuple",none,d,os⟩):Y7 K a:=⟨_,h,rfl,rfl⟩
end K85
open PySem PySem.W PyProof.Rows
structure PySem.W.Fast:Prop where(tw2823771308445108506 tw3279634325983737836 tw13840732752243963657 tw8729558053618126550 tw840085779499234961 tw4566432957794000663 tw10491091307163441950 tw11149863793506862754 tw10315736045641205429 tw14316860918441114863 tw14856015089491353568 tw12520588182220121068 tw10665510073402333397 tw18233024579246516210 tw15760521684849560374 tw6675914818287040971 tw3170251138961302282 tw10016905534171592234 tw1273052115465301505 tw5437153589298015295 tw7277855820108208285 tw1528124968885392605 tw9362482533177924236 tw1257717427480431766 tw2219858813696710434 tw6647038830959883690 tw16000434717634046573 tw4018163176079082682 tw10220531358003327352 tw9497346123351829407 tw1439439112196633848 tw8158379274750480734 tw17571807241259486606 tw2661237818286714552 tw3446331855273203209 tw18063440756798442011 tw16892902499544502400 tw17714938428933109913 tw13082242220346906012 tw1104744110872896401 tw8078846680278859521 tw8403569481113711989 tw9126280626365108740 tw13599355204170906134 tw16053430282173655736 tw11088106336632616564 tw9606573147651165532 tw469574495625501450 tw12600003356295619880 tw15357691679932144565 tw13478132672883315113 tw9844931484429256331 tw12229804882611068286 tw7198010791031863989 tw11916502581003500911 tw8223596034929555670 tw7752791675119571441 tw2113105684892831342 tw1180832405347469047 tw8195621038773646620 tw17575390310318192651 tw1381851297904648944 tw10563490623407837351 tw17093990889736659399 tw7841148851449812105 tw16626873479919127439 tw14449752511225209077 tw8970573663534384104 tw332444491588616423 tw6813801420226608382 tw12022299205828550988 tw8590442845975757687 tw10569091973171479967 tw12840683371727468291 tw16991379660218763655 tw12189506776145870988 tw6457304623316704456 tw5130858323087025253 tw698894252327426726 tw14668481936026937672 tw14830923395894119560 tw7561765500476197482 tw17480391016293388421 tw17468206580061590417 tw8525716882488234610 tw8662712350708756679 tw17876555708876014652 tw934539797216544339 tw11743065294892680194 tw1410082046314668429 tw6219764078036063128 tw529834645071668884 tw8517239462705081741 tw9112370805367536569 tw959253076438340532 tw3543340219148889047 tw1734585367910082980 tw5327853566650202417 tw88978811866823276 tw13825008013332596697 tw14439770555828517089 tw17866628811449662851 tw10264817371599469133 tw7739611827396654827 tw13385702543258957277 tw1359088710096677418 tw917428845146397130 tw18042804597195591864 tw13730697480788035134 tw17360330031622203610 tw18273676373627631564 tw3449469439905986734 tw15767055428283636268 tw18005056277006482769 tw13905408982106023884 tw12208963166631721787 tw8391651836058602368 tw6664100228714147763 tw5265973826793489012 tw11488864095885454350 tw2716888843898682643 tw2406595033458661134 tw942010667113996291 tw9769574662738517522 tw17124283903152934509 tw13723044977296160641 tw17567959484035334494 tw690521618404402937 tw4910742895089180249 tw14528166170974010770 tw12288751376829761120 tw3936304604388359237 tw15580738082938765160 tw4314521649887026215 tw711298838018534482 tw17829937176848889445 tw16414675610153466733 tw12205950478238311808 tw14398029659072995014 tw3739346446415703111 tw14685271907454457019 tw16239979838402043998 tw7515636825973891906 tw570088907837730222 tw12242285878634636458 tw8842955920699072544 tw787376777029145743 tw15677702623148019713 tw2262138172062132167 tw15241388375801110867 tw457848756951483878 tw729097265788708496 tw12849583412428064727 tw17065834128724136224 tw3347313944039869350 tw15287045107219737285 tw8352423709315255858 tw8495981107525934445 tw2988796106528463987 tw13660230610492479150 tw13837213939120259660 tw10037252085769955244 tw2614939316956827710 tw5347779679764725641 tw4405126086619588613 tw14050090128060500424 tw14205395928729964472 tw1427374910042732728 tw6552516482538474299 tw270248052559124162 tw10932155786612378194 tw14081470652949005046 tw8536416106057334358 tw1041027995806313901 tw3835197495269600000 tw13649192415935121717 tw11985485764958358751 tw11275239817804296611 tw11530524481765704322 tw7792063213217375972 tw13189585489067345833 tw924069821447798595 tw1555649284931921823 tw3250035827737985716 tw6642444077479319532 tw3492075240023871853 tw11615740456944122975 tw5131131354046968160 tw2311843614194859255 tw9825186093333956863 tw17095821519012902771 tw4399439629459853518 tw15370829794986635653 tw2257976134562692993 tw6228011224773324156 tw3386573960618839105 tw10192000825313720010 tw14876400708599866475 tw17389281605179243041 tw2635382754824683501 tw5872066285851126999 tw920592995965903458 tw12903972004657824975 tw4796312986212019792 tw5773570636709695306 tw7262344896363537907 tw10782015379337849293 tw11221172220762878588 tw483054001458710536 tw5595582014135992106 tw9115010394537299353 tw5367933216329880856 tw16395026341368869800 tw15138751780417194762 tw2888473989865653308 tw10045539070472727682 tw594839907326430724 tw13253177400671872368 tw17555201913466020316 tw8930288921361692367 tw8350202262522373884 tw6217096786391095431 tw5559041109186217328 tw12276579846253764935 tw11558118786973188272 tw12617809424091733575 tw6240416172618620578 tw15867135775667213833 tw4976589770395725061 tw10204536913606957281 tw2986185893836214133 tw8744974775534788636 tw8473518653474468573 tw789101128342126881 tw13348341881921021246 tw6674707237596153520 tw10408276590313322545 tw8349778362059526536 tw15668173436822320279 tw13430812078225092238 tw12661834063049767180 tw5741548598381518971 tw9767063218114109781 tw844627274242989579 tw5085022551842929735 tw2277777813066480173 tw11693712294914387435 tw6750720563975455383 tw12851535712798741513 tw10241605416486784696 tw17921493394204557361 tw1039717593413885531 tw1440943945365015227 tw17944266173848978615 tw13876409861133034674 tw279625696576966999 tw13414326475681774826 tw12623847743373637798 tw11000904032877992237 tw8402448916572568064 tw13965562996191880063 tw14005237096417265785 tw13854904145885696133 tw16123982638151835561 tw11384448459214916170 tw17970673307226259270 tw213469097320776228 tw18370345737579959691 tw14616784736042351363 tw336887027117445148 tw17726052424694196389 tw14625543831076294355 tw2878269504250948724 tw16199699293278097493 tw13691431425089182248 tw11825273489081399427 tw9531287621219440582 tw8970848431385228525 tw3624635981483804221 tw1820554162354322876 tw12529202086381438723 tw12022511525800398306 tw11303396211627281444 tw15855296563865026823 tw9828422907783718115 tw871030722812334996 tw3675059305965278732 tw9328025380246406934 tw13572823717463275339 tw16007604079238691473 tw9387603643405469722 tw4037687976905563826 tw3466263276787139871 tw2610203812067810516 tw16917516867662929135 tw13303434395884431508 tw12431704932316484834 tw9868174580535578736 tw9816704514290439614 tw5261341350426111596 tw4220621665868533741 tw8518246388347624269 tw1648329040632833606 tw11629367799775549038 tw5864283917125994368 tw2202894904480829217 tw1843822102173052540 tw13262406269603732626 tw4652888223130070664 tw2999738040700300018 tw8073869504969478991 tw5457165109305489188 tw296680458453735835 tw17493985794198126682 tw11817461349511052316 tw2310970720769259290 tw8963278413210259549 tw715253690255375071 tw432021240251556584 tw17549853026066285395 tw420715420467327222 tw14167276220424554461 tw8290220339737706106 tw629884673926593777 tw5876639894447222826 tw5042329774272614206 tw7183314655185803891 tw18412373420093637343 tw1615850751145028902 tw3139539468105929680 tw6561048712670366 tw6133093256577041878 tw15917840833375100671 tw15602530250199155111 tw4909551970083392072 tw5917046473471044538 tw861881743006940025 tw15762461971648682008 tw2793048202703906914 tw12797456085266018343 tw5482662257257496929 tw8971961385214473270 tw14962973370724105372 tw4736425904278919028 tw3447473493875550266 tw2623399171651959855 tw17425389129792054931 tw13326166976720178076 tw5182215727265102483 tw3446390999886547747 tw9676563788299451269 tw7615711006813363408 tw5066483261080143267 tw11267166292668772457 tw15766167845430569996 tw12025956952956267585 tw13137186006974604237 tw2462604482367584669 tw9159342882308150102 tw12890718837798431915 tw9650368636237092494 tw12330492011011098881 tw60302260385577025 tw11562063756485983306 tw3008106610468871743 tw17058875563326437074 tw3782973798687831268 tw1820845026022329075 tw16599628535002340039 tw4731445262258010812 tw14165595641944269167 tw6786389667752543733 tw6655743344080406729 tw15682311415615583540 tw5193028743596298824 tw2319407842654614281 tw7985579704220263425 tw7842920633548737343 tw5287712498962614120 tw13144928920334803969 tw8507425241076000609 tw15579349550090993 tw13690933037456049955 tw9928951498856436364 tw7661385346122739372 tw1156953062253958982 tw922098958938932041 tw5928206060687756225 tw3818501275167896964 tw17048249038689272415 tw15159355572865036570 tw12272117459700455086 tw5972450335269408179 tw18342855512566120393 tw8840483867254682894 tw11494204550209721836 tw14868392103222821942 tw8759045168154098686 tw6858291085181946971 tw18082338026291892802 tw18062117178019564681 tw16372745828169680903 tw14644398177195439520 tw1902875899476509481 tw14425156600712683001 tw11777486999105114470 tw2391355608650316878 tw15941671701401010285 tw11750085490305555890 tw7626352834112681691 tw5507688024646965275 tw2688905973186965633 tw1526185650971059119 tw3421003951016677171 tw9163337816936763064 tw7290884342535360408 tw2182002503592240794 tw17525550556439046158 tw14528278465715034732 tw12878266604171735729 tw12162680595183957304 tw11456631526608424338 tw989055065640654392 tw8559483700593075460 tw5956108570563209094:True)
theorem PySem.Challenge.cw_stormpost_k85_whole_letters_through_cell_holds : PySem.Challenge.rw_stormpost_k85_whole_letters_through_cell.Holds := by
 w_on;o_law;k_head;(case hw=>w_witness2)
 k_fill
 refine L2.PX (l:=PySem.Challenge.rw_stormpost_k85_whole_letters_through_cell) (k:=11) ⟨rfl,by decide,by decide⟩ rfl rfl (λw h Y=>PySem.W.kIn_of Y) ?F
 case F =>
  intro w mg fa h KX G V8;have T:∃t,K85.Txt (L2.KOf KX) mg t:=by
   dsimp only[L2.KOf];refine' K85.aAf ?t
   case t =>
    constructor
    all_goals try dsimp only
    all_goals first|(refine' PySem.W.mg_none_of KX G _;(any_goals k_is);done)|(refine' D9 KX G _;(any_goals k_is);done)|(refine' K85.aAg KX G _;(any_goals k_is);done)|(refine' K85.aAh _ _ _;(any_goals k_is);done)|(refine' K85.L8 ?hh;(case hh=>k_is))|(refine' K85.Rh ?hh;(case hh=>k_is))|(refine' K85.Ri ?hh;(case hh=>k_is))|(refine'⟨_,_,_,_⟩;(any_goals k_is);done)|(refine'⟨_,_,_⟩;(any_goals k_is);done)|(unfold L2.mq;(any_goals k_is);done)
  obtain⟨t,T⟩:=T;refine L2.PV ?_ (λ_ _ _ _ _ _ us hl=>match us,hl with|[_],_=>rfl) V8 λf fd à F=>K85.Uh T F ?_ ?_ ?_ ?_ ?_ ?_ ?_ ?_ ?_ ?_ ?_ ?_ ?_ ?_ ?_ ?_ ?_ ?_ ?_ ?_ ?_ ?_ ?_ ?_ ?_ ?_ ?_ ?_ ?_ ?_ ?_ ?_ ?_ ?_ ?_ ?_ ?_ ?_ ?_ ?_ ?_ ?_ ?_ ?_ ?_ ?_ ?_ ?_ ?_ ?_ ?_ ?_ ?_ ?_ ?_ ?_ ?_ ?_ ?_ ?_ ?_ ?_ ?_ ?_ ?_ ?_ ?_ ?_ ?_ ?_ ?_ ?_ ?_
  all_goals ((try dsimp only[L2.KOf]);first|(refine' L2.aY.mk' KX G _ _ _ _;(any_goals k_is);done)|(refine' L2.vE.mk' KX G _ _ _ _;(any_goals k_is);done))
