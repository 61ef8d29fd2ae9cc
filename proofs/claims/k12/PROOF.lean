import PyProof.Rows.All
import Wide.All
import OpenK.AllK
import Wide.FinOn
import Lean
import PyProof.EqAt
import PyProof.EqKinds
import PyProof.TupleCall
import PyProof.ConsumeS
import PySem.Challenge.RW_cordbook_k12_total_and_straight
set_option Elab.async false
set_option linter.all false
set_option maxRecDepth 100000
set_option genSizeOf false
noncomputable section
theorem gV:type_of% @PySem.wpAny_bind:=@PySem.wpAny_bind
theorem yH:type_of% @Bool.false_eq_true:=@Bool.false_eq_true
theorem yI:type_of% @List.length_map:=@List.length_map
theorem yJ:type_of% @List.length_cons:=@List.length_cons
theorem yK:type_of% @if_neg:=@if_neg
theorem yL:type_of% @Bool.false_ne_true:=@Bool.false_ne_true
theorem yM:type_of% @if_pos:=@if_pos
theorem yN:type_of% @PySem.wpAny_pure:=@PySem.wpAny_pure
theorem yO:type_of% @PySem.Heap.get?_push_of_some:=@PySem.Heap.get?_push_of_some
theorem yP:type_of% @Nat.le_refl:=@Nat.le_refl
theorem yQ:type_of% @List.map_cons:=@List.map_cons
theorem yR:type_of% @List.mem_cons_of_mem:=@List.mem_cons_of_mem
theorem yS:type_of% @List.getElem?_eq_getElem:=@List.getElem?_eq_getElem
theorem yT:type_of% @if_true:=@if_true
theorem yU:type_of% @Bool.and_eq_true:=@Bool.and_eq_true
theorem yV:type_of% @PySem.Heap.lt_size:=@PySem.Heap.lt_size
theorem yW:type_of% @List.size_toArray:=@List.size_toArray
theorem yX:type_of% @if_false:=@if_false
theorem yY:type_of% @List.length_append:=@List.length_append
theorem yZ:type_of% @List.mem_cons_self:=@List.mem_cons_self
theorem y7:type_of% @List.length_nil:=@List.length_nil
theorem y8:type_of% @Option.some.inj:=@Option.some.inj
theorem y9:type_of% @PySem.Heap.get?_push_size:=@PySem.Heap.get?_push_size
theorem zA:type_of% @List.mem_cons:=@List.mem_cons
theorem zB:type_of% @Nat.le_trans:=@Nat.le_trans
theorem zC:type_of% @PyProof.Rows.wpS_bind:=@PyProof.Rows.wpS_bind
theorem zD:type_of% @List.getElem?_set_self:=@List.getElem?_set_self
theorem zE:type_of% @List.getElem?_map:=@List.getElem?_map
theorem zF:type_of% @List.getElem?_append_right:=@List.getElem?_append_right
theorem zG:type_of% @List.getElem?_append_left:=@List.getElem?_append_left
theorem zH:type_of% @Nat.lt_of_lt_of_le:=@Nat.lt_of_lt_of_le
theorem zI:type_of% @List.getElem?_set_ne:=@List.getElem?_set_ne
theorem zJ:type_of% @List.take_succ_eq_append_getElem:=@List.take_succ_eq_append_getElem
theorem zK:type_of% @List.mem_append_right:=@List.mem_append_right
theorem zL:type_of% @Ne.symm:=@Ne.symm
theorem zM:type_of% @decide_eq_false:=@decide_eq_false
theorem zN:type_of% @Nat.zero_add:=@Nat.zero_add
theorem zO:type_of% @List.length_take:=@List.length_take
theorem zP:type_of% @Nat.ne_of_lt:=@Nat.ne_of_lt
theorem zQ:type_of% @decide_eq_true_eq:=@decide_eq_true_eq
theorem zR:type_of% @List.lookup_cons:=@List.lookup_cons
theorem zS:type_of% @List.getElem_mem:=@List.getElem_mem
theorem zT:type_of% @decide_eq_true:=@decide_eq_true
theorem zU:type_of% @List.find?_cons:=@List.find?_cons
theorem zV:type_of% @List.take_length:=@List.take_length
theorem zW:type_of% @List.map_append:=@List.map_append
theorem zX:type_of% @List.take_of_length_le:=@List.take_of_length_le
theorem zY:type_of% @List.map_map:=@List.map_map
theorem zZ:type_of% @PySem.wpAny_call_entry:=@PySem.wpAny_call_entry
theorem z0:type_of% @List.nodup_nil:=@List.nodup_nil
theorem z7:type_of% @PySem.wpAny_field:=@PySem.wpAny_field
theorem z8:type_of% @PySem.wpAny_mono:=@PySem.wpAny_mono
theorem z9:type_of% @List.drop_eq_getElem_cons:=@List.drop_eq_getElem_cons
theorem aAA:type_of% @List.mem_of_getElem?:=@List.mem_of_getElem?
theorem aAB:type_of% @PySem.wpAny_newObj_type:=@PySem.wpAny_newObj_type
theorem aAC:type_of% @PySem.Heap.get?_update_other:=@PySem.Heap.get?_update_other
theorem aAD:type_of% @Nat.lt_irrefl:=@Nat.lt_irrefl
theorem aAE:type_of% @List.map_congr_left:=@List.map_congr_left
theorem aAF:type_of% @PySem.wpAny_callSpecial?_slot:=@PySem.wpAny_callSpecial?_slot
theorem aAG:type_of% @Option.bind_some:=@Option.bind_some
theorem aAH:type_of% @Int.toNat_natCast:=@Int.toNat_natCast
theorem aAI:type_of% @PySem.wpAny_setField_rec:=@PySem.wpAny_setField_rec
theorem aAJ:type_of% @List.set_cons_succ:=@List.set_cons_succ
theorem aAK:type_of% @PySem.mem_of_lookup:=@PySem.mem_of_lookup
theorem aAL:type_of% @List.getElem?_eq_none:=@List.getElem?_eq_none
theorem aAM:type_of% @Array.getElem?_toList:=@Array.getElem?_toList
theorem aAN:type_of% @List.set_cons_zero:=@List.set_cons_zero
theorem aAO:type_of% @List.map_nil:=@List.map_nil
theorem aAP:type_of% @List.length_drop:=@List.length_drop
theorem aAQ:type_of% @List.append_nil:=@List.append_nil
theorem aAR:type_of% @Nat.ne_of_gt:=@Nat.ne_of_gt
theorem aAS:type_of% @List.range_succ:=@List.range_succ
theorem aAT:type_of% @decide_false:=@decide_false
namespace L2
open PySem PySem.Spec PyProof.Rows
def defArgs(s:Stmt):Arguments:=match s with
 |.FunctionDef _ a _ _ _ _ _ _ _ _=>a
 |_=>{posonlyargs:=[],args:=[],vararg:=none,kwonlyargs:=[],kw_defaults:=[],kwarg:=none,defaults:=[]}
def defBody(s:Stmt):List Stmt:=match s with
 |.FunctionDef _ _ b _ _ _ _ _ _ _=>b
 |_=>[]
def defScope(s:Stmt):Scope:=match s with
 |.FunctionDef _ _ _ _ _ _ sc _ _ _=>sc
 |_=>{kind:=.function,names:=[],isGenerator:=false,isCoroutine:=false}
end L2
namespace L
open PySem PySem.Spec PyProof.Rows L2
def ta:Nat->Nat×Str×Nat×List Str
 |0=>(5,"ends",2,["sheet","line","places","at","crossing","end"])
 |1=>(6,"split",3,["sheet","at","way","crossing","pairs"])
 |2=>(7,"crossing_at",2,["sheet","at"])
 |3=>(8,"line_at",2,["crossings","place"])
 |4=>(9,"opposite",1,["place"])
 |5=>(10,"numbered",2,["crossings","rings","numbers","told","crossing","line"])
 |6=>(11,"without",2,["crossings","gone"])
 |7=>(12,"joined",3,["crossings","rings","pairs","left","waiting","kept","lost"])
 |8=>(13,"renamed",3,["rows","old","new"])
 |9=>(16,"twist",1,["sheet"])
 |10=>(17,"turn",2,["sheet","at","place"])
 |11=>(18,"onward",2,["sheet","place"])
 |12=>(19,"along",2,["sheet","place","places"])
 |13=>(23,"total",1,["sheet","powers"])
 |14=>(24,"straight",1,["sheet","turns","sign"])
 |15=>(25,"split_up",1,["sheet","counts","crossing"])
 |16=>(26,"split_once",1,["counts","found","state","number","way"])
 |17=>(27,"sums_by_rings",1,["counts","found","state","number"])
 |18=>(28,"summed",1,["by_rings","powers","rings","added","power","number"])
 |19=>(29,"times_ring",1,["powers","found","power","number","more"])
 |20=>(30,"add_to",3,["counts","key","number"])
 |21=>(32,"_law_cell_at",2,["script","k"])
 |22=>(33,"_law_pick",2,["script","k"])
 |23=>(34,"_law_rows",4,["script","start","many","fixed","owner","k","left","name","at"])
 |24=>(35,"_law_numbered",1,["rows","names","row","name","found"])
 |25=>(36,"_law_whole",1,["x"])
 |26=>(37,"_law_mate",2,["rows","place","line","k","e"])
 |27=>(38,"_law_twist",1,["rows","found","at","place"])
 |28=>(39,"_law_rings",1,["pairs","left","found","two","other","e"])
 |29=>(40,"_law_ways",1,["many","ways","k"])
 |30=>(41,"_law_choices",1,["rings","row","k","more","e"])
 |31=>(42,"_law_add",3,["found","power","rings","row","e","at"])
 |32=>(43,"_law_total",2,["rows","rings","found","way","pairs","k","row"])
 |33=>(44,"_law_listed",3,["found","shift","sign"])
 |34=>(45,"_law_alike",2,["found","due","k"])
 |35=>(46,"law",1,["script","many","rings","rows","due","w"])
 |_=>(0,"",0,[])
abbrev nm(i:Nat):Str:=(ta i).2.1
abbrev Nn(i:Nat):List Str:=(ta i).2.2.2
abbrev Ps(i:Nat):List Str:=(Nn i).take (ta i).2.2.1
abbrev sT(i:Nat):Stmt:=PySem.Challenge.pw_cordbook_k12_total_and_straight.main.body.getD (ta i).1 (.Pass ⟨0,0,0,0⟩)
abbrev bmV:List Value:=[.type "ValueError",.type "Exception",.type "BaseException",.type "object"]
def bl:List Str:=["bool","enumerate","int","isinstance","len","list","max","range","sorted","sum","tuple"]
abbrev FH(K:W.Frag)(i:Nat):Prop:=∃(f:Addr)(oc kV dc pm cd ct:Value)(od an:Option Addr)(sl:Array (Option Value)),W.nsIn K mainGlobals (nm i)=some (some (.ref f))/\K.lookup f=some ⟨oc,od,.func (W.fnOf (nm i) (nm i) (defArgs (sT i)) (defBody (sT i)) (defScope (sT i)) .none kV dc pm an cd ct),sl⟩/\W.codeIn K cd (nm i)=true/\W.keepIn K (.ref f)=true
abbrev ExB(K:W.Frag)(C:Addr):Prop:=(W.findIn K (.ref C) "__getattribute__"=some (some (.builtin "BaseException.__getattribute__"))/\W.findIn K (.ref C) "__getattr__"=some none)/\W.findIn K (.ref C) "__class__"=some (some (.builtin "object.__class__"))/\W.mroIn K C (.type "object")=some true/\W.mroIn K C (.type "BaseException")=some true
abbrev qq:Program:=W.view PySem.Challenge.pw_cordbook_k12_total_and_straight [1,2,4,5,6,7,8,9,10,11,12,13,15,16,17,18,19,21,22,23,24,25,26,27,28,29,30,32,33,34,35,36,37,38,39,40,41,42,43,44,45,46]
def Fx(K:W.Frag):Prop:=∃(C0:Addr)(cd_0:ClassData),specOf qq "NoPlace"=some ("ValueError.__new__",bmV)/\(∀i,i<36->FH K i)/\(∀i,i<11->W.nsIn K mainGlobals (bl.getD i "")=some none)/\(W.nsIn K mainGlobals "NoPlace"=some (some (.ref C0))/\W.specialIn K (.builtin "object.__class__") "__get__"=some (some (.builtin "getset_descriptor.__get__"))/\W.takesIn K (.builtin "object.__class__")=some true/\ExB K C0/\W.clsIn K C0=some cd_0/\W.typeIn K (.ref C0)=some (.type "type")/\W.subIn K (.ref C0) (.ref C0)=some true)/\(∃(ad_RING_POWERS:Addr)(od_RING_POWERS:Option Addr)(sl_RING_POWERS:Array (Option Value))(nn_RING_POWERS:Nat)(tk_RING_POWERS_0 tk_RING_POWERS_1:Tok),W.nsIn K mainGlobals "RING_POWERS"=some (some (.ref ad_RING_POWERS))/\K.lookup ad_RING_POWERS=some ⟨.type "tuple",od_RING_POWERS,.seq #[.int (2) tk_RING_POWERS_0,.int (-2) tk_RING_POWERS_1] nn_RING_POWERS,sl_RING_POWERS⟩)/\(∃(ad_SHIFTS:Addr)(od_SHIFTS:Option Addr)(sl_SHIFTS:Array (Option Value))(nn_SHIFTS:Nat)(tk_SHIFTS_0 tk_SHIFTS_1:Tok),W.nsIn K mainGlobals "SHIFTS"=some (some (.ref ad_SHIFTS))/\K.lookup ad_SHIFTS=some ⟨.type "tuple",od_SHIFTS,.seq #[.int (1) tk_SHIFTS_0,.int (-1) tk_SHIFTS_1] nn_SHIFTS,sl_SHIFTS⟩)/\(∃(ad_SPLITS_0:Addr)(od_SPLITS_0:Option Addr)(sl_SPLITS_0:Array (Option Value))(nn_SPLITS_0:Nat)(ad_SPLITS_1:Addr)(od_SPLITS_1:Option Addr)(sl_SPLITS_1:Array (Option Value))(nn_SPLITS_1:Nat)(ad_SPLITS_2:Addr)(od_SPLITS_2:Option Addr)(sl_SPLITS_2:Array (Option Value))(nn_SPLITS_2:Nat)(tk_SPLITS_3:Tok)(tk_SPLITS_4:Tok)(ad_SPLITS_5:Addr)(od_SPLITS_5:Option Addr)(sl_SPLITS_5:Array (Option Value))(nn_SPLITS_5:Nat)(tk_SPLITS_6:Tok)(tk_SPLITS_7:Tok)(ad_SPLITS_8:Addr)(od_SPLITS_8:Option Addr)(sl_SPLITS_8:Array (Option Value))(nn_SPLITS_8:Nat)(ad_SPLITS_9:Addr)(od_SPLITS_9:Option Addr)(sl_SPLITS_9:Array (Option Value))(nn_SPLITS_9:Nat)(tk_SPLITS_10:Tok)(tk_SPLITS_11:Tok)(ad_SPLITS_12:Addr)(od_SPLITS_12:Option Addr)(sl_SPLITS_12:Array (Option Value))(nn_SPLITS_12:Nat)(tk_SPLITS_13:Tok)(tk_SPLITS_14:Tok),W.nsIn K mainGlobals "SPLITS"=some (some (.ref ad_SPLITS_0))/\K.lookup ad_SPLITS_0=some ⟨.type "tuple",od_SPLITS_0,.seq #[.ref ad_SPLITS_1,.ref ad_SPLITS_8] nn_SPLITS_0,sl_SPLITS_0⟩/\K.lookup ad_SPLITS_1=some ⟨.type "tuple",od_SPLITS_1,.seq #[.ref ad_SPLITS_2,.ref ad_SPLITS_5] nn_SPLITS_1,sl_SPLITS_1⟩/\K.lookup ad_SPLITS_2=some ⟨.type "tuple",od_SPLITS_2,.seq #[.int (0) tk_SPLITS_3,.int (1) tk_SPLITS_4] nn_SPLITS_2,sl_SPLITS_2⟩/\K.lookup ad_SPLITS_5=some ⟨.type "tuple",od_SPLITS_5,.seq #[.int (2) tk_SPLITS_6,.int (3) tk_SPLITS_7] nn_SPLITS_5,sl_SPLITS_5⟩/\K.lookup ad_SPLITS_8=some ⟨.type "tuple",od_SPLITS_8,.seq #[.ref ad_SPLITS_9,.ref ad_SPLITS_12] nn_SPLITS_8,sl_SPLITS_8⟩/\K.lookup ad_SPLITS_9=some ⟨.type "tuple",od_SPLITS_9,.seq #[.int (0) tk_SPLITS_10,.int (3) tk_SPLITS_11] nn_SPLITS_9,sl_SPLITS_9⟩/\K.lookup ad_SPLITS_12=some ⟨.type "tuple",od_SPLITS_12,.seq #[.int (1) tk_SPLITS_13,.int (2) tk_SPLITS_14] nn_SPLITS_12,sl_SPLITS_12⟩)/\(∃(ad_TURNS:Addr)(od_TURNS:Option Addr)(sl_TURNS:Array (Option Value))(nn_TURNS:Nat)(tk_TURNS_0 tk_TURNS_1 tk_TURNS_2 tk_TURNS_3:Tok),W.nsIn K mainGlobals "TURNS"=some (some (.ref ad_TURNS))/\K.lookup ad_TURNS=some ⟨.type "tuple",od_TURNS,.seq #[.int (0) tk_TURNS_0,.int (-1) tk_TURNS_1,.int (0) tk_TURNS_2,.int (1) tk_TURNS_3] nn_TURNS,sl_TURNS⟩)
end L
section
open PySem PySem.W PyProof.Rows
set_option hygiene false in
local macro_rules | `(tactic| o_head $H) => `(tactic| (refine holds_open (N := 6000) (loose := []) (q := (view PySem.Challenge.pw_cordbook_k12_total_and_straight [1, 2, 4, 5, 6, 7, 8, 9, 10, 11, 12, 13, 15, 16, 17, 18, 19, 21, 22, 23, 24, 25, 26, 27, 28, 29, 30, 32, 33, 34, 35, 36, 37, 38, 39, 40, 41, 42, 43, 44, 45, 46])) (XP := XL (view PySem.Challenge.pw_cordbook_k12_total_and_straight [1, 2, 4, 5, 6, 7, 8, 9, 10, 11, 12, 13, 15, 16, 17, 18, 19, 21, 22, 23, 24, 25, 26, 27, 28, 29, 30, 32, 33, 34, 35, 36, 37, 38, 39, 40, 41, 42, 43, 44, 45, 46]) []) (YP := Hook.says $H) (Yf := Hook.obs $H) (Ya := Hook.val $H) (Xt := fun s => xlAt (view PySem.Challenge.pw_cordbook_k12_total_and_straight [1, 2, 4, 5, 6, 7, 8, 9, 10, 11, 12, 13, 15, 16, 17, 18, 19, 21, 22, 23, 24, 25, 26, 27, 28, 29, 30, 32, 33, 34, 35, 36, 37, 38, 39, 40, 41, 42, 43, 44, 45, 46]) [] s && recOk (RowW.records (OpenRow.toRowW (OpenLaw.row PySem.Challenge.rw_cordbook_k12_total_and_straight))) s) ?hl (Hook.of $H) (Hook.keeps $H) (fun s e => xl_of s (Bool.and_eq_true_iff.mp e).1) XL.keeps (by rfl) (by rfl) (by rfl) (fun s e => recFacts_of (Bool.and_eq_true_iff.mp e).2) (by rfl) (by first | assumption | decide +kernel) (by decide +kernel) ⟨rfl, rfl, rfl, rfl, rfl, by decide +kernel⟩ ?hw ?hc; case hl => (intro w; kernel_rfl)))
set_option maxRecDepth 100000 in
set_option maxHeartbeats 0 in
theorem L.beg (call : ∀ {XP : (Str → Option Value) → Heap → Prop} {YP : World → Heap → Prop} {d : DefRec} {K : Params → W.Frag}, d.name = "law" → d.params.defaults = [] → (∀ (w : World) (h : Heap), YP w h → (K w.params).In h) → (∀ p, L.Fx (K p)) →
  W.WalkO L.qq [] XP YP PySem.Challenge.rw_cordbook_k12_total_and_straight.row.toRowW d [] fun f vs => PySem.call f vs) : PySem.Challenge.rw_cordbook_k12_total_and_straight.Holds := by
 w_on; o_law; k_head; (case hw => w_witness2)
 k_fill
 refine call rfl rfl (fun w h Y => W.kIn_of Y) fun p => ?_
 refine ⟨_, _, by first | rfl | decide +kernel, ?hF, ?hB, ⟨by k_is, by k_is, by k_is, ⟨⟨by k_is, by k_is⟩, by k_is, by k_is, by k_is⟩, by k_is, by k_is, by k_is⟩, ⟨_, _, _, _, _, _, by k_is, by k_is⟩, ⟨_, _, _, _, _, _, by k_is, by k_is⟩, ⟨_, _, _, _, _, _, _, _, _, _, _, _, _, _, _, _, _, _, _, _, _, _, _, _, _, _, _, _, _, _, _, _, _, _, _, _, by k_is, by k_is, by k_is, by k_is, by k_is, by k_is, by k_is, by k_is⟩, ⟨_, _, _, _, _, _, _, _, by k_is, by k_is⟩⟩
 case hF =>
  intro i hi
  match i, hi with
  | 0, _ | 1, _ | 2, _ | 3, _ | 4, _ | 5, _ | 6, _ | 7, _ | 8, _ | 9, _ | 10, _ | 11, _ | 12, _ | 13, _ | 14, _ | 15, _ | 16, _ | 17, _ | 18, _ | 19, _ | 20, _ | 21, _ | 22, _ | 23, _ | 24, _ | 25, _ | 26, _ | 27, _ | 28, _ | 29, _ | 30, _ | 31, _ | 32, _ | 33, _ | 34, _ | 35, _ =>
   exact ⟨_, _, _, _, _, _, _, _, _, _, by k_is, by k_is, by k_is, by k_is⟩
  | n + 36, h => exact absurd h (by omega)
 case hB =>
  intro i hi
  match i, hi with
  | 0, _ | 1, _ | 2, _ | 3, _ | 4, _ | 5, _ | 6, _ | 7, _ | 8, _ | 9, _ | 10, _ => show _ = _; k_is
  | n + 11, h => exact absurd h (by omega)
end
namespace PySem
open Sem (wp)
inductive NK where
 |int (i:Int)
 |tup (l:List NK)
noncomputable instance:DecidableEq NK:=λa b=>Classical.propDecidable (a=b)
mutual
inductive IsNK(h:Heap):NK->Value->Prop
 |int (i:Int) (t:Tok):IsNK h (.int i) (.int i t)
 |tup {l:List NK} {a:Addr} {o:Obj} {items:Array Value} {n} (ho:h.get? a=some o) (hc:o.cls=.type "tuple") (hd:o.data=.seq items n) (hl:IsNKs h l items.toList):IsNK h (.tup l) (.ref a)
inductive IsNKs(h:Heap):List NK->List Value->Prop
 |nil:IsNKs h [] []
 |cons {k:NK} {v:Value} {ks:List NK} {vs:List Value} (h1:IsNK h k v) (h2:IsNKs h ks vs):IsNKs h (k::ks) (v::vs)
end
mutual
theorem IsNK.inj:∀{x y:NK}{v:Value},IsNK h x v->IsNK h y v->x=y
 |_,_,_,.int i t,q=>by cases q;rfl
 |_,_,_,.tup ho hc hd hl,q=>by
  cases q with
  |tup ho' hc' hd' hl'=>
   rw[ho] at ho';cases ho';rw[hd] at hd';cases hd';rw[IsNKs.inj hl hl']
theorem IsNKs.inj:∀{x y:List NK}{v:List Value},IsNKs h x v->IsNKs h y v->x=y
 |_,_,_,.nil,q=>by cases q;rfl
 |_,_,_,.cons h1 h2,q=>by
  cases q with
  |cons h1' h2'=>rw[IsNK.inj h1 h1',IsNKs.inj h2 h2']
end
variable{prog:Program}{w:World}
mutual
noncomputable def nkHash(prog:Program)(w:World):NK->Int
 |.int i=>(intKind prog w).hash i
 |.tup l=>reduceHash (Builtin.Tuple.tupleHashOf (nkHashes prog w l))
noncomputable def nkHashes(prog:Program)(w:World):List NK->List Int
 |[]=>[]
 |k::ks=>nkHash prog w k::nkHashes prog w ks
end
mutual
noncomputable def nkDraws:NK->Nat
 |.int _=>1
 |.tup l=>nkDrawss l+1
noncomputable def nkDrawss:List NK->Nat
 |[]=>0
 |k::ks=>nkDraws k+nkDrawss ks
end
mutual
noncomputable def nkDeep:NK->Nat
 |.int _=>0
 |.tup l=>nkDeeps l+1
noncomputable def nkDeeps:List NK->Nat
 |[]=>0
 |k::ks=>max (nkDeep k) (nkDeeps ks)
end
theorem eE(h:k∈l):nkDeep k<=nkDeeps l:=by
 induction l with
 |nil=>cases h
 |cons x l ih=>
  rw[nkDeeps];rcases List.mem_cons.mp h with rfl|h
  ·omega
  ·have:=ih h;omega
variable{E:Value->Shared->Prop}
theorem eF{P:NK->Prop}(h1:∀i,P (.int i))(h2:∀l,(∀k∈l,P k)->P (.tup l))(k:NK):P k:=
 NK.rec (motive_1:=P) (motive_2:=λl=>∀k∈l,P k) h1 (λl ih=>h2 l ih) (λk hk=>nomatch hk) (λk l ihk ihl x hx=>by
  rcases List.mem_cons.mp hx with rfl|hx
  ·exact ihk
  ·exact ihl x hx) k
theorem dE(l:List NK):nkHashes prog w l=l.map (nkHash prog w):=by
 induction l with
 |nil=>rfl
 |cons k l ih=>rw[nkHashes,ih];rfl
theorem i8(l:List NK)(k:NK):nkDrawss (l++[k])=nkDrawss l+nkDraws k:=by
 induction l with
 |nil=>simp[nkDrawss]
 |cons x l ih=>rw[List.cons_append,nkDrawss,ih,nkDrawss];omega
theorem oO(i:Int)(t:Tok):(intKind prog w).is i (.int i t)=true:=by simp[intKind,Value.isInt]
end PySem
namespace PySem
open Sem (wp)
variable{prog:Program}{w:World}{E:Value->Shared->Prop}
theorem IsNK.tyT{s:Shared}(q:IsNK s.heap (.tup l) v):s.TypeIs v "tuple":=by
 cases q with
 |tup ho hc hd hl=>exact⟨_,ho,hc⟩
theorem nk_hash(k:NK):∀{A:Around}{s:Shared}{v:Value}{Q:Int->Shared->Prop},A.units+nkDeep k<cLine->IsNK s.heap k v->Q (nkHash prog w k) {s with toks:=s.toks+nkDraws k}->
  wpAny (model prog w) A (pyHash v) Q E s:=by
 induction k using eF with
 |h1 i=>
  intro A s v Q _ q h;cases q;exact(intKind prog w).pyHash (k:=i) (oO i _) h
 |h2 l ih=>
  intro A s v Q room q h;have ty:=q.tyT;rw[nkDeep] at room
  cases q with
  | @tup _ a o its n ho hc hd hl=>
  unfold pyHash
  first|unfold pyHashByItsType|skip
  first|refine gV (wpAny_cRoomFor_or (.inr (by omega)) ?_)|skip
  refine gV (wpAny_specialOf ty F.slot_tuple_hash.lookup ?_);show wpAny _ _ (if(some (Value.builtin "tuple.__hash__")==some Value.none)=true then _ else _) Q E s;rw[yK (by rw[beq_builtin_none];decide)];refine gV (wpAny_specialOf ty F.slot_tuple_hash.lookup ?_);show wpAny _ _ (callSpecialIfBoundUnlessNone? (.ref a) "__hash__" _>>=_) Q E s;refine gV (wpAny_callSpecialIfBoundUnlessNone?_slot ty F.slot_tuple_hash (zZ F.slot_tuple_hash ty F.entry_tuple_hash ?_ (F.args_tuple_hash_1 _)));show wpAny _ _ (Builtin.Tuple.tupleItemsOf (.ref a)>>=_) _ _ s;refine gV (wpAny_tupleItemsOf ho hd ?_);refine gV ?_;rw[←Array.forIn_toList];refine wpAny_forIn_list _ (λrest (b:Array Int) s'=>∃pre post,l=pre++post/\IsNKs s.heap post rest/\b.toList=nkHashes prog w pre/\s'={s with toks:=s.toks+nkDrawss pre}) _ ?_ ?_ _ _ ⟨[],l,rfl,hl,rfl,rfl⟩
  ·rintro x rest b s' ⟨pre,post,e,hp,hb,rfl⟩
   cases hp with
   | @cons k _ ks _ q1 q2=>
    have mk:k∈l:=by rw[e];simp
    have lek:=eE mk;have step:∃pre' post',l=pre'++post'/\IsNKs s.heap post' rest/\(b.push (nkHash prog w k)).toList=nkHashes prog w pre'/\({s with toks:=s.toks+nkDrawss pre+nkDraws k}:Shared)={s with toks:=s.toks+nkDrawss pre'}:=
     ⟨pre++[k],ks,by rw[e];simp,q2,by rw[Array.toList_push,hb,dE,dE];simp,by rw[i8,Nat.add_assoc]⟩
    refine gV (ih k mk (s:={s with toks:=s.toks+nkDrawss pre}) (by show A.units+1+nkDeep k<cLine;omega) q1 ?_)
    first
     |exact yN step
     |exact gV (yN (yN step))
  ·rintro b s' ⟨pre,post,e,hp,hb,rfl⟩
   cases hp;rw[aAQ] at e;subst e;show wpAny _ _ (retInt (Builtin.Tuple.tupleHashOf b.toList)) _ _ _;rw[hb];refine wpAny_ret_mkInt ?_;rw[nkHash,nkDraws] at h;unfold reduceHash at h;generalize Builtin.Tuple.tupleHashOf (nkHashes prog w l)=z at h⊢;show wpAny _ _ (if(decide (-(2:Int)^63<=z)&&decide (z<2^63))=true then _ else _) Q E _;by_cases hr:(decide (-(2:Int)^63<=z)&&decide (z<2^63))=true
   ·rw[yM hr] at h⊢
    exact yN (by simpa[Nat.add_assoc] using h)
   ·rw[yK hr] at h⊢
    exact gV (wpAny_rule (yN (by simpa[Nat.add_assoc] using h)))
theorem uJ(k:NK):∀{A:Around}{s:Shared}{v:Value}{Q:Bool->Shared->Prop}{n:Nat},nkDeep k<=n->IsNK s.heap k v->Q true s->wpAny (model prog w) A (eqIsQuiet n v) Q E s:=by
 induction k using eF with
 |h1 i=>
  intro A s v Q n _ q h;cases q;rw[eqIsQuiet_byValue _ rfl];exact yN h
 |h2 l ih=>
  intro A s v Q n room q h;have ty:=q.tyT;rw[nkDeep] at room;obtain⟨m,rfl⟩:∃m,n=m+1:=⟨n-1,by omega⟩
  cases q with
  | @tup _ a o its n' ho hc hd hl=>
  unfold eqIsQuiet;refine gV (wpAny_specialOf ty F.slot_tuple_eq.lookup ?_);show wpAny _ _ (isInstance (.ref a) (.type "tuple")>>=_) _ _ s;refine gV (wpAny_isInstance ty isSubtype_tuple_tuple ?_);simp only[Bool.not_true,yH,yX];refine gV (wpAny_seqItems ho hd ?_);refine gV ?_;show wpAny _ _ (forIn its _ _) _ _ s;rw[←Array.forIn_toList];refine wpAny_forIn_list _ (λrest r s'=>r.1=none/\s'=s/\∃post,(∀k∈post,k∈l)/\IsNKs s.heap post rest) _ ?_ ?_ _ _ ⟨rfl,rfl,l,λ_ z=>z,hl⟩
  ·rintro v rest r s' ⟨hr,rfl,post,hm,hp⟩
   cases hp with
   | @cons k _ ks _ q1 q2=>
    have lek:=eE (hm k yZ);refine gV (ih k (hm k yZ) (by omega) q1 ?_);simp only[Bool.not_true,yH,yX];exact yN ⟨rfl,rfl,ks,λx hx=>hm x (yR _ hx),q2⟩
  ·rintro⟨r1,r2⟩ s' ⟨hr,rfl,_⟩
   simp only at hr;subst hr;exact yN h
inductive Shp where
 |int
 |all (s:Shp)
 |two (s t:Shp)
noncomputable def Shp.ok:Shp->NK->Prop
 |.int,.int _=>True
 |.all s,.tup l=>∀k∈l,s.ok k
 |.two s t,.tup [a,b]=>s.ok a/\t.ok b
 |_,_=>False
inductive Side:List NK->List NK->Prop
 |l (y:List NK):Side [] y
 |r (x:List NK):Side x []
 |c {a b:NK} {x y:List NK} {s:Shp} (ha:s.ok a) (hb:s.ok b) (h:Side x y):Side (a::x) (b::y)
theorem l5{s:Shp}:∀{x y:List NK},(∀k∈x,s.ok k)->(∀k∈y,s.ok k)->Side x y
 |[],y,_,_=>.l y
 |a::x,[],_,_=>.r _
 |a::x,b::y,h,h'=>.c (h a yZ) (h' b yZ) (l5 (λk q=>h k (yR _ q)) λk q=>h' k (yR _ q))
theorem Shp.side:∀{s:Shp}{x y:List NK},s.ok (.tup x)->s.ok (.tup y)->Side x y
 |.int,_,_,h,_=>h.elim
 |.all s,x,y,h,h'=>l5 h h'
 |.two s t,[a,b],[c,d],h,h'=>.c h.1 h'.1 (.c h.2 h'.2 (.l []))
theorem nk_eq(x:NK):∀{y:NK}{S:Shp}{A:Around}{s:Shared}{u v:Value}{Q:Bool->Shared->Prop},A.units+nkDeep x<cLine->S.ok x->S.ok y->IsNK s.heap x u->IsNK s.heap y v->Q (decide (x=y)) s->
  wpAny (model prog w) A (eqBool u v) Q E s:=by
 induction x using eF with
 |h1 i=>
  intro y S A s u v Q _ hx hy p q h
  cases S with
  |int=>
   cases y with
   |int j=>
    cases p;cases q;refine(intKind prog w).eqBool (a:=i) (b:=j) (oO i _) (oO j _) ?_;have:decide (NK.int i=NK.int j)=decide (i=j):=by simp
    rw[←this];exact h
   |tup l=>exact hy.elim
  |all S=>exact hx.elim
  |two S T=>exact hx.elim
 |h2 l ih=>
  intro y S A s u v Q room hx hy p q h
  cases y with
  |int j=>cases S<;>first|exact hx.elim|exact hy.elim
  |tup m=>
   have sd:=Shp.side hx hy;have tp:=p.tyT;have tq:=q.tyT;have pi:=p;have qi:=q;rw[nkDeep] at room
   cases p with
   | @tup _ a oa xs na hoa hca hda hla=>
   cases q with
   | @tup _ b ob ys nb hob hcb hdb hlb=>
   unfold eqBool
   try with_reducible refine wpAny_holding ?_
   show wpAny _ _ (if(Value.ref a==Value.ref b)=true then _ else _) Q E s;by_cases hab:(Value.ref a==Value.ref b)=true
   ·rw[yM hab]
    have e:a=b:=by have:=eq_of_beq hab;injection this
    subst e;have e2:=pi.inj qi;exact gV (wpAny_rule (yN (by simpa[e2] using h)))
   ·rw[yK hab]
    refine gV (wpAny_richCompare_same_room (op:=.Eq) tp tq F.slot_tuple_eq (zZ F.slot_tuple_eq tp F.entry_tuple_eq ?_ (F.args_tuple_eq_2 _ _)) (by omega));have h':Q (decide (l=m)) s:=by simpa using h
    show wpAny _ _ (isInstance (.ref b) (.type "tuple")>>=_) _ _ s;refine gV (wpAny_isInstance tq isSubtype_tuple_tuple ?_);simp only[Bool.not_true,yH,yX];refine gV (wpAny_tupleItemsOf hoa hda ?_);refine gV (wpAny_tupleItemsOf hob hdb ?_);refine gV ?_;refine wpAny_forIn_list _ (λrest r s'=>r.1=none/\s'=s/\∃x' y' us vs,rest=List.zip us vs/\(∀k∈x',k∈l)/\IsNKs s.heap x' us/\IsNKs s.heap y' vs/\Side x' y'/\decide (x'=y')=decide (l=m)/\(us.length==vs.length)=(xs.size==ys.size))
     _ ?_ ?_ _ _ ⟨rfl,rfl,l,m,xs.toList,ys.toList,rfl,λ_ z=>z,hla,hlb,sd,rfl,by simp⟩
    ·rintro⟨u,v⟩ rest r s' ⟨hr,rfl,x',y',us,vs,hz,hm,hx',hy',hs,hdec,hlen⟩
     cases hx' with
     |nil=>simp at hz
     | @cons k1 u' x2 us2 q1 q2=>
      cases hy' with
      |nil=>simp at hz
      | @cons k2 v' y2 vs2 r1 r2=>
       simp only[List.zip_cons_cons,List.cons.injEq,Prod.mk.injEq] at hz;obtain⟨⟨rfl,rfl⟩,rfl⟩:=hz
       cases hs with
       |c ha hb hs2=>
       have lek:=eE (hm k1 yZ);refine gV (ih k1 (hm k1 yZ) (by show A.units+1+nkDeep k1<cLine;omega) ha hb q1 r1 ?_);by_cases hk:k1=k2
       ·subst hk
        rw[zT rfl];simp only[Bool.not_true,yH,yX];refine yN ⟨rfl,rfl,x2,y2,us2,vs2,rfl,λz hz=>hm z (yR _ hz),q2,r2,hs2,?_,by simpa using hlen⟩;rw[←hdec];by_cases hxy:x2=y2<;>simp[hxy]
       ·rw[zM hk]
        simp only[Bool.not_false,yT];have hf:decide (l=m)=false:=by rw[←hdec];simp[hk]
        rw[hf] at h';exact gV (yN (yN (yN ⟨_,rfl,(λe=>nomatch e),wpAny_truthy_bool h'⟩)))
    ·rintro⟨r1,r2⟩ s' ⟨hr,rfl,x',y',us,vs,hz,hm,hx',hy',hs,hdec,hlen⟩
     simp only at hr;subst hr;refine yN ?_;have fin:(xs.size==ys.size)=decide (l=m):=by
      rw[←hdec,←hlen]
      cases hx' with
      |nil=>cases hy'<;>simp
      |cons _ _=>
       cases hy' with
       |nil=>simp
       |cons _ _=>simp at hz
     exact⟨_,rfl,(λe=>nomatch e),wpAny_truthy_bool (by rw[fin];exact h')⟩
theorem uK{es ep}(ho:h.get? d=some o)(hd:o.data=.dict es ep)(hs:Heap.SameBut d h h')(k:NK):∀{v:Value},IsNK h k v->IsNK h' k v:=by
 induction k using eF with
 |h1 i=>intro v q;cases q;exact .int i _
 |h2 l ih=>
  intro v q
  cases q with
  | @tup _ a oa xs na hoa hca hda hla=>
   have hne:a≠d:=by
    rintro rfl;rw[ho] at hoa;cases hoa;rw[hd] at hda;exact nomatch hda
   refine .tup ((hs.2 a hne).trans hoa) hca hda ?_;have go:∀(ks:List NK)(vs:List Value),(∀k∈ks,k∈l)->IsNKs h ks vs->IsNKs h' ks vs:=by
    intro ks
    induction ks with
    |nil=>intro vs _ q;cases q;exact .nil
    |cons k ks ih2=>
     intro vs hm q
     cases q with
     |cons q1 q2=>exact .cons (ih k (hm k yZ) q1) (ih2 _ (λz hz=>hm z (yR _ hz)) q2)
   exact go l _ (λ_ z=>z) hla
end PySem
namespace PySem
noncomputable def kShp:Shp:=.two (.two (.all (.all .int)) .int) .int
noncomputable def nkKind(prog:Program)(w:World):HeapKind prog w NK where
 is:=λh k a=>IsNK h k (.ref a)/\kShp.ok k/\nkDeep k<=8
 hash:=nkHash prog w
 draws:=nkDraws
 room:=λA=>A.units+8<cLine
 inj:=λp q=>p.1.inj q.1
 keeps:=λp ho hd hs=>⟨uK ho hd hs _ p.1,p.2⟩
 pyHash:=λhu hk h=>nk_hash _ (by have:=hk.2.2;omega) hk.1 h
 eqBool:=λhu hx hy h=>nk_eq _ (by have:=hx.2.2;omega) hx.2.1 hy.2.1 hx.1 hy.1 h
 quiet:=λhk h=>uJ _ hk.2.2 hk.1 h
end PySem
namespace L2
open PySem PySem.Spec PyProof.Rows
noncomputable abbrev Key:=Sum Int Str
noncomputable def keyIs:Key->Value->Bool
 |.inl k,v=>Value.isInt k v
 |.inr x,v=>Value.isStrOf x v
noncomputable def keyH(w:World):Key->Int
 |.inl k=>hashInt k
 |.inr x=>hashStr w x
theorem aJ:∀{k:Key}{v:Value},keyIs k v=true->(∃i t,k=Sum.inl i/\v=Value.int i t)\/(∃x t,k=Sum.inr x/\v=Value.str x t)
 |.inl i,v,h=>by
  obtain⟨t,e⟩:=Value.isInt_shape (k:=i) (v:=v) h;exact .inl ⟨i,t,rfl,e⟩
 |.inr x,v,h=>by
  obtain⟨t,e⟩:=Value.isStrOf_shape (x:=x) (v:=v) h;exact .inr ⟨x,t,rfl,e⟩
theorem sH(i:Int)(t:Tok):keyIs (.inl i) (.int i t)=true:=by simp[keyIs,Value.isInt]
theorem sI(x:Str)(t:Tok):keyIs (.inr x) (.str x t)=true:=by simp[keyIs,Value.isStrOf]
theorem key_ll(a b:Int):decide ((Sum.inl a:Key)=Sum.inl b)=(a==b):=by
 by_cases e:a=b
 ·subst e;simp
 ·have h:¬(Sum.inl a:Key)=Sum.inl b:=λq=>e (Sum.inl.inj q)
  rw[zM h];exact(beq_eq_false_iff_ne.mpr e).symm
theorem key_rr(a b:Str):decide ((Sum.inr a:Key)=Sum.inr b)=decide (a=b):=by
 by_cases e:a=b
 ·subst e;simp
 ·have h:¬(Sum.inr a:Key)=Sum.inr b:=λq=>e (Sum.inr.inj q)
  rw[zM h,zM e]
theorem key_lr(a:Int)(b:Str):decide ((Sum.inl a:Key)=Sum.inr b)=false:=zM (λq=>nomatch q)
theorem key_rl(a:Str)(b:Int):decide ((Sum.inr a:Key)=Sum.inl b)=false:=zM (λq=>nomatch q)
noncomputable def mixKind(prog:Program)(w:World):PySem.KeyKind prog w Key where
 is:=keyIs
 hash:=keyH w
 inj:=λv a b ha hb=>by
  rcases aJ ha with⟨i,t,rfl,rfl⟩|⟨x,t,rfl,rfl⟩
  ·rcases aJ hb with⟨j,u,rfl,e⟩|⟨y,u,rfl,e⟩
   ·injection e with e1 _;rw[e1]
   ·exact nomatch e
  ·rcases aJ hb with⟨j,u,rfl,e⟩|⟨y,u,rfl,e⟩
   ·exact nomatch e
   ·injection e with e1 _;rw[e1]
 byValue:=λk v h=>by
  rcases aJ h with⟨i,t,rfl,rfl⟩|⟨x,t,rfl,rfl⟩<;>rfl
 pyHash:=λhv h=>by
  rcases aJ hv with⟨i,t,rfl,rfl⟩|⟨x,t,rfl,rfl⟩
  ·exact wpAny_pyHash_int h
  ·exact wpAny_pyHash_str h
 eqBool:=λhu hv h=>by
  rcases aJ hu with⟨i,t,rfl,rfl⟩|⟨x,t,rfl,rfl⟩
  ·rcases aJ hv with⟨j,u,rfl,rfl⟩|⟨y,u,rfl,rfl⟩
   ·rw[key_ll] at h;exact wpAny_eqBool_int h
   ·rw[key_lr] at h;exact SeqAt.EqAt.int_str i t y u _ _ _ _ h
  ·rcases aJ hv with⟨j,u,rfl,rfl⟩|⟨y,u,rfl,rfl⟩
   ·rw[key_rl] at h;exact SeqAt.EqAt.str_int x t j u _ _ _ _ h
   ·rw[key_rr] at h;exact wpAny_eqBool_str h
 «strs»:=λk x t v h=>by
  rcases aJ h with⟨i,u,rfl,e⟩|⟨y,u,rfl,e⟩
  ·exact nomatch e
  ·injection e with e1 _
   subst e1;cases v<;>rfl
theorem l6(prog:Program)(w:World)(i:Int)(t:Tok):(mixKind prog w).is (.inl i) (.int i t)=true:=sH i t
theorem l7(prog:Program)(w:World)(x:Str)(t:Tok):(mixKind prog w).is (.inr x) (.str x t)=true:=sI x t
inductive V where
 |non|bl (b:Bool)|int (i:Int)|str (x:Str)|byt (b:Array UInt8)|flt (b:UInt64)|ref (a:Addr)|ty (n:String)
 deriving DecidableEq
noncomputable def RelV:V->Value->Prop
 |.non,u=>u=Value.none
 |.bl b,u=>u=Value.bool b
 |.int i,u=>∃t,u=Value.int i t
 |.str x,u=>∃t,u=Value.str x t
 |.byt b,u=>∃t,u=Value.bytes b t
 |.flt b,u=>∃t,u=Value.float b t
 |.ref a,u=>u=Value.ref a
 |.ty n,u=>u=Value.type n
noncomputable abbrev Vals:List V->List Value->Prop:=Paired RelV
theorem Vals.length(r:Vals xs us):xs.length=us.length:=Paired.length r
theorem Vals.get:∀{xs:List V}{us:List Value}{i:Nat}{x:V},Vals xs us->xs[i]?=some x->∃u,us[i]?=some u/\RelV x u
 |_,_,_,_,.nil,e=>by simp at e
 |_,_,0,_,.cons r _,e=>by simp at e;subst e;exact⟨_,rfl,r⟩
 |_,_,i+1,x,.cons _ t,e=>by
  obtain⟨u,h1,h2⟩:=Vals.get (i:=i) (x:=x) t (by simpa using e);exact⟨u,by simpa using h1,h2⟩
theorem Vals.set(r:RelV x u):∀{xs:List V}{us:List Value}(i:Nat),Vals xs us->Vals (xs.set i x) (us.set i u)
 |_,_,_,.nil=>.nil
 |_,_,0,.cons _ t=>.cons r t
 |_,_,i+1,.cons q t=>.cons q (Vals.set r i t)
theorem Vals.append:∀{xs ys:List V}{us ws:List Value},Vals xs us->Vals ys ws->Vals (xs++ys) (us++ws)
 |_,_,_,_,.nil,s=>s
 |_,_,_,_,.cons r t,s=>.cons r (Vals.append t s)
theorem Vals.take:∀{xs:List V}{us:List Value}(n:Nat),Vals xs us->Vals (xs.take n) (us.take n)
 |_,_,0,_=>.nil
 |_,_,_+1,.nil=>.nil
 |_,_,n+1,.cons r t=>.cons r (Vals.take n t)
theorem Vals.drop:∀{xs:List V}{us:List Value}(n:Nat),Vals xs us->Vals (xs.drop n) (us.drop n)
 |_,_,0,r=>r
 |_,_,_+1,.nil=>.nil
 |_,_,n+1,.cons _ t=>Vals.drop n t
noncomputable def RelO:Option V->Option Value->Prop
 |some v,some u=>RelV v u
 |none,none=>True
 |_,_=>False
noncomputable def KV{κ:Type}:List (κ×V)->List (κ×Value)->Prop:=Paired λ(p:κ×V)(q:κ×Value)=>p.1=q.1/\RelV p.2 q.2
noncomputable def kV:Key->V
 |.inl i=>.int i
 |.inr x=>.str x
inductive HO where
 |lst (xs:List V)
 |tup (xs:List V)
 |dN (kvs:List (NK×Addr×V))
 |dK (kvs:List (Key×V))|dT (kvs:List (List Key×V))
 |set (S:Int->Bool) (n:Nat)
 |ins (C dx:Addr) (fs:List (Str×V))
 |own (x:Addr)
 |xd (fs:List (Str×V))
 |met (f x:Addr)
 |rng (lo hi:Int)
 |frz (o:Obj) (u:HO)
 |tbl (ps:Array Value)
 |ext (φ:Heap->Prop)
noncomputable abbrev Hp:=Addr->Option HO
noncomputable def upd(H:Hp)(a:Addr)(o:HO):Hp:=λb=>if b=a then some o else H b
theorem upd_same:upd H a o a=some o:=by unfold upd;rw[yM rfl]
theorem aA(h:b≠a):upd H a o b=H b:=by unfold upd;rw[yK h]
theorem qG:upd (upd H a o) a u=upd H a u:=by
 funext b;unfold upd;split<;>rfl
theorem ne_of{H:Hp}(h:H a=some o)(h':H b=some u)(d:o≠u):a≠b:=by
 intro e;subst e;rw[h] at h';exact d (y8 h')
theorem aB{H:Hp}(h:H a=some o)(h':H b=none):a≠b:=by
 intro e;subst e;rw[h] at h';cases h'
section
variable(P:Program)(w:World)
noncomputable def ObjOk(H:Hp)(h:Heap)(a:Addr):HO->Prop
 |.lst xs=>xs.length<=sizeLine/\∃(its:List Value)(n:Nat),Vals xs its/\h.get? a=some {cls:=.type "list",data:=.seq its.toArray n}
 |.tup xs=>xs.length<=sizeLine/\∃its:List Value,Vals xs its/\IsTup h a its.toArray
 |.dK kvs=>kvs.length<=sizeLine/\(a==sysModules)=false/\∃vs,KV kvs vs/\h.DictOf (mixKind P w) a vs
 | .dT kvs=>kvs.length<=sizeLine/\(a==sysModules)=false/\∃xs:List (List Key×Addr×Value),
   Paired (λ(p:List Key×V)(q:List Key×Addr×Value)=>p.1=q.1/\H q.2.1=some (.tup (p.1.map kV))/\RelV p.2 q.2.2) kvs xs/\
   ∃o es ep,h.get? a=some o/\o.ExactDict/\o.data=.dict es ep/\es.toList=xs.map (entryOfKey (tupleKind (mixKind P w)))/\(xs.map (·.1)).Nodup
 | .dN kvs=>kvs.length<=sizeLine/\(a==sysModules)=false/\∃xs:List (NK×Addr×Value),
   Paired (λ(p:NK×Addr×V)(q:NK×Addr×Value)=>p.1=q.1/\p.2.1=q.2.1/\RelV p.2.2 q.2.2) kvs xs/\
   ∃o es ep,h.get? a=some o/\o.ExactDict/\o.data=.dict es ep/\es.toList=xs.map (entryOfKey (nkKind P w))/\(xs.map (·.1)).Nodup
 |.set S n=>h.SetOf (intKind P w) a S n
 | .ins C dx fs=>H dx=some (.own a)/\fs.length<=1000/\dx≠a/\h.get? a=some (PySem.W.instObj C dx)/\
   ∃mA,h.Ns1 dx mA/\(∀f,RelO (fs.lookup f) (mA f))/\PySem.Within mA (fs.map (·.1))
 |.own _=>∃o,h.get? a=some o
 |.xd fs=>∃mA,h.Ns1 a mA/\∀f,RelO (fs.lookup f) (mA f)
 |.rng lo hi=>∃t u v,h.get? a=some {cls:=.type "range",data:=.fields #[.int lo t,.int hi u,.int 1 v]}
 |.frz o u=>h.get? a=some o/\ObjOk H h a u
 |.tbl ps=>h.get? a=some {cls:=.none,data:=.fields ps}
 |.met f x=>h.get? a=some (PySem.W.methodObj (.ref f) (.ref x))
 |.ext φ=>φ h/\(∃o,h.get? a=some o)/\∀h1 h2:Heap,φ h1->(∀o,h1.get? a=some o->h2.get? a=some o)->φ h2
noncomputable def HOk(H:Hp)(h:Heap):Prop:=∀a o,H a=some o->ObjOk P w H h a o
end
section
variable{P:Program}{w:World}{H H':Hp}{h h':Heap}{a:Addr}{o:HO}
theorem ObjOk.lt(x:ObjOk P w H h a o):a<h.objs.size:=by
 cases o with
 |lst xs=>obtain⟨_,_,_,_,e⟩:=x;exact yV e
 |tup xs=>obtain⟨_,_,_,p⟩:=x;exact p.lt
 |dK kvs=>obtain⟨_,_,_,_,o,_,_,e,_⟩:=x;exact yV e
 |dT kvs=>obtain⟨_,_,_,_,o,_,_,e,_⟩:=x;exact yV e
 |dN kvs=>obtain⟨_,_,_,_,o,_,_,e,_⟩:=x;exact yV e
 |set S n=>obtain⟨o,_,_,_,e,_⟩:=x;exact yV e
 |ins C dx fs=>obtain⟨_,_,_,e,_⟩:=x;exact yV e
 |own y=>obtain⟨_,e⟩:=x;exact yV e
 |xd fs=>obtain⟨_,⟨_,_,_,e,_⟩,_⟩:=x;exact yV e
 |rng lo hi=>obtain⟨_,_,_,e⟩:=x;exact yV e
 |frz ob u=>obtain⟨e,_⟩:=x;exact yV e
 |tbl ps=>exact yV (show h.get? a=some _ from x)
 |met f y=>exact yV (show h.get? a=some _ from x)
 |ext φ=>obtain⟨_,⟨_,e⟩,_⟩:=x;exact yV e
theorem Paired.mapP:∀{l₁:List α}{l₂:List β},Paired F l₁ l₂->(∀a b,F a b->G a b)->Paired G l₁ l₂
 |_,_,.nil,_=>.nil
 |_,_,.cons r t,f=>.cons (f _ _ r) (Paired.mapP t f)
theorem ObjOk.stay(x:ObjOk P w H h a o)(k:∀b u,(b=a\/H b=some (.own a))->h.get? b=some u->h'.get? b=some u)
  (ho:∀b,H b=some (.own a)->H' b=some (.own a)) (ht:∀b xs,H b=some (.tup xs)->H' b=some (.tup xs)):ObjOk P w H' h' a o:=by
 induction o with
 |lst xs=>obtain⟨z,its,n,r,e⟩:=x;exact⟨z,its,n,r,k _ _ (.inl rfl) e⟩
 |tup xs=>obtain⟨z,its,r,ob,e,c⟩:=x;exact⟨z,its,r,ob,k _ _ (.inl rfl) e,c⟩
 |dK kvs=>obtain⟨z,y,vs,r,ob,es,ep,e,c⟩:=x;exact⟨z,y,vs,r,ob,es,ep,k _ _ (.inl rfl) e,c⟩
 |dT kvs=>
  obtain⟨z,y,xs,r,ob,es,ep,e,c⟩:=x;exact⟨z,y,xs,Paired.mapP r λp q z=>⟨z.1,ht _ _ z.2.1,z.2.2⟩,ob,es,ep,k _ _ (.inl rfl) e,c⟩
 |dN kvs=>obtain⟨z,y,xs,r,ob,es,ep,e,c⟩:=x;exact⟨z,y,xs,r,ob,es,ep,k _ _ (.inl rfl) e,c⟩
 |set S n=>obtain⟨ob,es,ep,t,e,c⟩:=x;exact⟨ob,es,ep,t,k _ _ (.inl rfl) e,c⟩
 |ins C dx fs=>
  obtain⟨d,z,ne,e,mA,⟨od,es,ep,e2,c⟩,r⟩:=x;exact⟨ho _ d,z,ne,k _ _ (.inl rfl) e,mA,⟨od,es,ep,k _ _ (.inr d) e2,c⟩,r⟩
 |own y=>obtain⟨ob,e⟩:=x;exact⟨ob,k _ _ (.inl rfl) e⟩
 |xd fs=>obtain⟨mA,⟨od,es,ep,e,c⟩,r⟩:=x;exact⟨mA,⟨od,es,ep,k _ _ (.inl rfl) e,c⟩,r⟩
 |rng lo hi=>obtain⟨t,u,v,e⟩:=x;exact⟨t,u,v,k _ _ (.inl rfl) e⟩
 |frz ob u ih=>obtain⟨e,q⟩:=x;exact⟨k _ _ (.inl rfl) e,ih q⟩
 |tbl ps=>
  have e:h.get? a=some {cls:=.none,data:=.fields ps}:=x;show h'.get? a=some {cls:=.none,data:=.fields ps};exact k a _ (.inl rfl) e
 |met f y=>
  have e:h.get? a=some (PySem.W.methodObj (.ref f) (.ref y)):=x;show h'.get? a=some (PySem.W.methodObj (.ref f) (.ref y));exact k a _ (.inl rfl) e
 |ext φ=>obtain⟨p,⟨o,e⟩,st⟩:=x;exact⟨st _ _ p λo q=>k _ _ (.inl rfl) q,⟨o,k _ _ (.inl rfl) e⟩,st⟩
theorem HOk.lt(x:HOk P w H h)(e:H a=some o):a<h.objs.size:=(x a o e).lt
theorem HOk.fresh(x:HOk P w H h)(e:h.objs.size<=a):H a=none:=by
 cases q:H a with
 |none=>rfl
 |some u=>exact absurd (zH (x.lt q) e) (aAD _)
theorem HOk.kept(x:HOk P w H h)(k:∀b u,h.get? b=some u->h'.get? b=some u):HOk P w H h':=λa o e=>
 (x a o e).stay (λb u _ q=>k b u q) (λ_ q=>q) λ_ _ q=>q
theorem HOk.laid(x:HOk P w H h)(k:∀b u,h.get? b=some u->h'.get? b=some u)(hp:h.objs.size<=a)(new:ObjOk P w (upd H a o) h' a o):HOk P w (upd H a o) h':=λb u e=>by
 have hn:=x.fresh hp;by_cases hb:b=a
 ·subst hb;rw[upd_same] at e;cases e;exact new
 ·rw[aA hb] at e
  exact(x b u e).stay (λc v _ q=>k c v q) (λc q=>by rw[aA (aB q hn)];exact q) λc xs q=>by rw[aA (aB q hn)];exact q
end
noncomputable def Rd(H:Hp)(a:Addr)(u:HO):Prop:=H a=some u\/∃o,H a=some (.frz o u)
theorem Rd.ok(r:Rd H a u)(x:HOk P w H h):ObjOk P w H h a u:=by
 rcases r with r|⟨o,r⟩
 ·exact x a u r
 ·obtain⟨_,q⟩:=x a _ r
  exact q
noncomputable def Mut:Option HO->Prop
 |some (.lst _)=>True
 |some (.dK _)=>True
 |some (.dT _)=>True
 |some (.dN _)=>True
 |some (.set _ _)=>True
 |some (.ins _ _ _)=>True
 |some (.ext _)=>True
 |_=>False
section
variable{P:Program}{w:World}{H:Hp}{h h':Heap}{x e:Addr}{o':HO}
theorem HOk.write(ok:HOk P w H h)(mu:Mut (H x))(he:e=x\/H e=some (.own x))(k:∀b u,b≠e->h.get? b=some u->h'.get? b=some u)(heo:∃u,h'.get? e=some u)
  (new:ObjOk P w (upd H x o') h' x o'):HOk P w (upd H x o') h':=λb u q=>by
 have nown:∀c y,H c=some (.own y)->c≠x:=λc y r z=>by subst z;rw[r] at mu;exact mu
 have ntup:∀c xs,H c=some (.tup xs)->c≠x:=λc xs r z=>by subst z;rw[r] at mu;exact mu
 by_cases hb:b=x
 ·subst hb;rw[upd_same] at q;cases q;exact new
 ·rw[aA hb] at q
  by_cases hbe:b=e
  ·have q':H b=some (.own x):=by
    rcases he with z|z
    ·exact absurd (hbe.trans z) hb
    ·rw[hbe];exact z
   rw[q] at q';cases q';obtain⟨v,hv⟩:=heo;exact⟨v,by rw[hbe];exact hv⟩
  ·refine(ok b u q).stay (λc v hc r=>k c v ?_ r) (λc r=>by rw[aA (nown c b r)];exact r) λc xs r=>by rw[aA (ntup c xs r)];exact r
   rcases hc with rfl|hc
   ·exact hbe
   ·rintro rfl
    rcases he with z|z
    ·exact nown c b hc z
    ·rw[hc] at z;cases z;exact hb rfl
end
structure Un(fs ex:List Addr)(H H':Hp)(h h':Heap):Prop where
 keep:∀b o,h.get? b=some o->H b=none->b∉fs->b∉ex->h'.get? b=some o
 slot:∀b o,h.get? b=some o->H b=none->b∈fs->b∉ex->∃sl,h'.get? b=some {o with slots:=sl}
 free:∀b o,h.get? b=some o->H b=none->b∉ex->H' b=none
 there:∀b o,h.get? b=some o->b∉ex->∃o',h'.get? b=some o'
 tups:∀b xs,H b=some (.tup xs)->H' b=some (.tup xs)
 frzs:∀b o u,H b=some (.frz o u)->H' b=some (.frz o u)
 tbls:∀b ps,H b=some (.tbl ps)->∃more,H' b=some (.tbl (ps++more))
section
variable{fs fs' ex ex':List Addr}{H H1 H2:Hp}{h h1 h2 h':Heap}{a x e:Addr}{o:HO}
theorem Un.any(u:Un fs ex H H1 h h1)(q:h.get? b=some ob)(n:H b=none)(hx:b∉ex):∃sl,h1.get? b=some {ob with slots:=sl}:=by
 by_cases hb:b∈fs
 ·exact u.slot b ob q n hb hx
 ·exact⟨ob.slots,u.keep b ob q n hb hx⟩
theorem Un.trans(a:Un fs ex H H1 h h1)(b:Un fs ex H1 H2 h1 h2):Un fs ex H H2 h h2 where
 keep:=λc ob q n hc hx=>b.keep c ob (a.keep c ob q n hc hx) (a.free c ob q n hx) hc hx
 slot:=λc ob q n hc hx=>by
  obtain⟨sl,e1⟩:=a.slot c ob q n hc hx;obtain⟨sl',e2⟩:=b.slot c _ e1 (a.free c ob q n hx) hc hx;exact⟨sl',e2⟩
 free:=λc ob q n hx=>by
  obtain⟨o',e1⟩:=a.there c ob q hx;exact b.free c o' e1 (a.free c ob q n hx) hx
 there:=λc ob q hx=>by
  obtain⟨o',e1⟩:=a.there c ob q hx;exact b.there c o' e1 hx
 tups:=λc xs q=>b.tups c xs (a.tups c xs q)
 frzs:=λc ob xs q=>b.frzs c ob xs (a.frzs c ob xs q)
 tbls:=λc ps q=>by
  obtain⟨m1,e1⟩:=a.tbls c ps q;obtain⟨m2,e2⟩:=b.tbls c _ e1;exact⟨m1++m2,by rw[e2,Array.append_assoc]⟩
theorem Un.kept(k:∀b u,h.get? b=some u->h'.get? b=some u):Un fs ex H H h h':=
 ⟨λb ob q _ _ _=>k b ob q,λb ob q _ _ _=>⟨ob.slots,k b ob q⟩,λ_ _ _ n _=>n,λb ob q _=>⟨ob,k b ob q⟩,λ_ _ q=>q,λ_ _ _ q=>q,λ_ ps q=>⟨#[],by rw[q];simp⟩⟩
theorem Un.refl:Un fs ex H H h h:=Un.kept λ_ _ q=>q
theorem Un.laid(k:∀b u,h.get? b=some u->h'.get? b=some u)(hp:h.objs.size<=a)(hn:H a=none):Un fs ex H (upd H a o) h h' where
 keep:=λb u q _ _ _=>k b u q
 slot:=λb u q _ _ _=>⟨u.slots,k b u q⟩
 free:=λb u q n _=>by rw[aA (zP (zH (yV q) hp))];exact n
 there:=λb u q _=>⟨u,k b u q⟩
 tups:=λb xs q=>by rw[aA (aB q hn)];exact q
 frzs:=λb u xs q=>by rw[aA (aB q hn)];exact q
 tbls:=λb ps q=>⟨#[],by rw[aA (aB q hn),q];simp⟩
theorem Un.write(mu:Mut (H x))(he:e=x\/H e=some (.own x))(k:∀b u,b≠e->h.get? b=some u->h'.get? b=some u)(heo:∃u,h'.get? e=some u):Un fs ex H (upd H x o) h h':=by
 have hx:∀b,H b=none->b≠x:=λb n z=>by subst z;rw[n] at mu;exact mu
 have hb:∀b,H b=none->b≠e:=λb n z=>by
  subst z;rcases he with r|r
  ·exact hx b n r
  ·rw[n] at r;cases r
 have hm:∀b u,H b=some u->¬Mut (some u)->b≠x:=λb u q nm z=>by subst z;rw[q] at mu;exact nm mu
 refine⟨λb u q n _ _=>k b u (hb b n) q,λb u q n _ _=>⟨u.slots,k b u (hb b n) q⟩,λb u q n _=>by rw[aA (hx b n)];exact n,λb u q _=>?_,
  λb xs q=>by rw[aA (hm b _ q λz=>z)];exact q,λb u xs q=>by rw[aA (hm b _ q λz=>z)];exact q,λb ps q=>⟨#[],by rw[aA (hm b _ q λz=>z),q];simp⟩⟩
 by_cases hbe:b=e
 ·subst hbe;exact heo
 ·exact⟨u,k b u hbe q⟩
end
noncomputable def trk(h:Heap)(H:Hp):List Addr:=(List.range h.objs.size).filter λa=>(H a).isSome
noncomputable def hidT(h:Heap)(H:Hp):Heap:=PySem.W.hideAll h (trk h H)
theorem sJ(h:Heap)(H:Hp):(hidT h H).objs.size=h.objs.size:=PySem.W.hideAll_size _ _
theorem uL(e:h.get? b=some o)(n:H b=none):(hidT h H).get? b=some o:=
 PySem.W.hideAll_get _ e λhm=>by
  have q:(H b).isSome=true:=(List.mem_filter.mp hm).2;rw[n] at q;simp at q
theorem of_hidT(e:(hidT h H).get? b=some o):h.get? b=some o/\H b=none:=by
 have e':h.get? b=some o:=PySem.W.of_hideAll (trk h H) e;refine⟨e',?_⟩
 cases q:H b with
 |none=>rfl
 |some x=>
  have hm:b∈trk h H:=List.mem_filter.mpr ⟨List.mem_range.mpr (yV e'),by simp[q]⟩;have z:(hidT h H).get? b=none:=PySem.W.hideAll_none (trk h H) hm;rw[z] at e;cases e
structure Mod(K:PySem.W.Frag)(mg:Str->Option Value)(base:Heap):Prop where
 kin:K.In base
 glob:base.Ns mainGlobals mg
 blt:∃mb,base.Ns builtinsNs mb/\∀x:Str,x≠"__name__"->mb x=bootBuiltins x
 nolimit:base.NoLimit
structure Cx where
 prog:Program
 w:World
 K:PySem.W.Frag
 mg:Str->Option Value
 base:Heap
 A:Around
 N:List Str
 s₀:Shared
 H₀:Hp
 env:Env
 outer:List Env
 stack:List Env
 ex:List Addr
 fn:Str->Bool
 calm:Bool
 pn:List (Addr×Obj)
 xe:Value->Shared->Prop
noncomputable def frs(l:List Env):List Addr:=l.filterMap (·.frame)
noncomputable abbrev Cx.fs(X:Cx):List Addr:=frs X.outer
noncomputable def Vis(sc:Scope)(x:Str):Prop:=sc.names.lookup x=some .local\/sc.names.lookup x=some .cell\/sc.names.lookup x=some .free
noncomputable def Loc(sc:Scope)(x:Str):Prop:=sc.names.lookup x=some .local\/sc.names.lookup x=some .cell
noncomputable def Look(env:Env)(h:Heap)(m:Str->Option Value)(x:Str)(u:Value):Prop:=
 (env.kindOf x=some .local/\m x=some u)\/((env.kindOf x=some .cell\/env.kindOf x=some .free)/\∃c,env.cells.lookup x=some c/\h.IsCell c (some u))
structure Cx.Ok(X:Cx):Prop where
 mod:Mod X.K X.mg X.base
 kind:X.env.scope.kind=.function
 glob:X.env.globals=mainGlobals
 blt:X.env.builtins=builtinsNs
 above:X.s₀.heap.objs.size<=X.env.locals
 inj:∀x y c,X.env.cells.lookup x=some c->X.env.cells.lookup y=some c->x=y
 has:∀x,(X.env.kindOf x=some .cell\/X.env.kindOf x=some .free)->∃c,X.env.cells.lookup x=some c
 cab:∀x c,X.fn x=true->X.env.cells.lookup x=some c->X.s₀.heap.objs.size<=c
 hd:X.calm=true->X.A.handled=none
 frames:X.A.frames=some X.stack
 stk:X.stack=X.outer\/(X.stack=X.env::X.outer/\X.env.frame=some X.env.locals)
 exf:∀b∈X.ex,b≠X.env.locals/\∀x c,X.env.cells.lookup x=some c->c≠b
 bs:∀b o,X.base.get? b=some o->X.s₀.heap.get? b=some o/\X.H₀ b=none
 bsz:X.base.objs.size<=X.s₀.heap.objs.size
 noex:∀b o,X.base.get? b=some o->b∉X.ex
 exfs:∀b∈X.ex,b∉X.fs
 funs:X.s₀.heap.FunFrames X.base X.outer
 frf:∀b∈X.fs,X.H₀ b=none
structure Inv(X:Cx)(pins:List (Addr×Obj))(σ:List (Option V))(H:Hp)(s:Shared):Prop where
 ok:X.Ok
 os:s.os=X.s₀.os
 bare:AllBare s.gens
 base:Un X.fs X.ex X.H₀ H X.s₀.heap s.heap
 loc:∃m,s.heap.Ns X.env.locals m/\∀(i:Nat)(x:Str)(v:V),X.N[i]?=some x->σ[i]?=some (some v)->Vis X.env.scope x->∃u,RelV v u/\Look X.env s.heap m x u
 cell:∀x c,X.env.cells.lookup x=some c->∃v,s.heap.IsCell c v
 free:H X.env.locals=none
 freeC:∀x c,X.env.cells.lookup x=some c->H c=none
 pin:∀p∈X.pn++pins,s.heap.get? p.1=some p.2/\H p.1=none/\p.1≠X.env.locals/\p.1∉X.fs/\∀v,p.2.data≠.cell v
 hok:HOk X.prog X.w H s.heap
 len:σ.length=X.N.length
section
variable{X:Cx}{pins:List (Addr×Obj)}{σ:List (Option V)}{H H':Hp}{s:Shared}{h':Heap}
theorem Cx.Ok.nofr(ok:X.Ok)(e:X.base.get? b=some o):b∉X.fs:=λhb=>by
 have:=(ok.funs.mem hb).1;rw[e] at this;cases this
theorem Inv.bs(I:Inv X pins σ H s):∀b o,X.base.get? b=some o->s.heap.get? b=some o/\H b=none:=λb o e=>
 ⟨I.base.keep b o (I.ok.bs b o e).1 (I.ok.bs b o e).2 (I.ok.nofr e) (I.ok.noex b o e),I.base.free b o (I.ok.bs b o e).1 (I.ok.bs b o e).2 (I.ok.noex b o e)⟩
theorem Inv.bk(I:Inv X pins σ H s):∀b o,X.base.get? b=some o->s.heap.get? b=some o:=λb o e=>(I.bs b o e).1
theorem Inv.mod(I:Inv X pins σ H s):Mod X.K X.mg X.base:=I.ok.mod
theorem Inv.kIn(I:Inv X pins σ H s):X.K.In s.heap:=I.ok.mod.kin.keeps I.bk
theorem Inv.lt(I:Inv X pins σ H s):X.env.locals<s.heap.objs.size:=let⟨_,hn,_⟩:=I.loc;hn.lt
theorem Inv.sz(I:Inv X pins σ H s):X.s₀.heap.objs.size<=s.heap.objs.size:=zB I.ok.above (Nat.le_of_lt I.lt)
theorem Inv.nofs(I:Inv X pins σ H s)(h:s.heap.objs.size<=a):a∉X.fs:=λhb=>by
 obtain⟨_,o,ho,_⟩:=I.ok.funs.mem hb;exact absurd (zH (yV ho) (zB I.sz h)) (aAD _)
theorem Inv.cne(I:Inv X pins σ H s):∀x c,X.env.cells.lookup x=some c->c≠X.env.locals:=λx c e z=>by
 obtain⟨v,o,ho,hd⟩:=I.cell x c e;obtain⟨m,⟨o',es,ep,ho',hd',_⟩,_⟩:=I.loc;rw[z,ho'] at ho;cases ho;rw[hd'] at hd;cases hd
theorem Inv.funs(I:Inv X pins σ H s):s.heap.FunFrames X.base X.outer:=by
 have all:∀(l:List Env),(∀b∈frs l,b∈X.fs)->X.s₀.heap.FunFrames X.base l->s.heap.FunFrames X.base l:=by
  intro l
  induction l with
  |nil=>intro _ _;trivial
  |cons env r ih=>
   intro hs hl;obtain⟨hk,⟨L,o,hf,hn,ho,hd⟩,hr⟩:=hl;have hL:L∈X.fs:=hs L (by unfold frs;rw[List.filterMap_cons,hf];exact yZ);obtain⟨sl,e⟩:=I.base.slot L o ho (I.ok.frf L hL) hL λz=>I.ok.exfs L z hL;exact⟨hk,⟨L,_,hf,hn,e,hd⟩,ih (λb hb=>hs b (by unfold frs;rw[List.filterMap_cons,hf];exact yR _ hb)) hr⟩
 exact all X.outer (λ_ hb=>hb) I.ok.funs
theorem Inv.stack(I:Inv X pins σ H s):s.heap.FunFrames X.base X.stack:=by
 rcases I.ok.stk with e|⟨e,hf⟩
 ·rw[e];exact I.funs
 ·rw[e]
  obtain⟨m,hn,_⟩:=I.loc;refine .cons (by rw[I.ok.kind];decide) hf hn ?_ I.funs;exact Heap.get?_none_of_le (zB I.ok.bsz I.ok.above)
theorem Inv.stkSub(I:Inv X pins σ H s):∀b∈frs X.stack,b∈X.env.locals::X.fs:=λb hb=>by
 rcases I.ok.stk with e|⟨e,hf⟩
 ·rw[e] at hb;exact yR _ hb
 ·rw[e] at hb
  unfold frs at hb;rw[List.filterMap_cons,hf] at hb;exact hb
theorem Inv.stkFree(I:Inv X pins σ H s):∀b∈frs X.stack,H b=none:=λb hb=>by
 rcases List.mem_cons.mp (I.stkSub b hb) with e|hb
 ·rw[e];exact I.free
 ·obtain⟨_,o,ho,_⟩:=I.ok.funs.mem hb
  exact I.base.free b o ho (I.ok.frf b hb) λz=>I.ok.exfs b z hb
theorem Inv.step{g':Array GenState}{t':Nat}{d':Drawn}{ch:List Addr}(I:Inv X pins σ H s)
  (hch:∀b∈ch,(b∈X.ex\/X.s₀.heap.objs.size<=b)/\b≠X.env.locals/\(∀x c,X.env.cells.lookup x=some c->c≠b)/\∀p∈X.pn++pins,p.1≠b)
  (keep:∀b o,b≠X.env.locals->b∉X.fs->b∉ch->s.heap.get? b=some o->H b=none->h'.get? b=some o)
  (slot:∀b o,b≠X.env.locals->b∈X.fs->b∉ch->s.heap.get? b=some o->H b=none->∃sl,h'.get? b=some {o with slots:=sl}) (free:∀b o,b∉ch->s.heap.get? b=some o->H b=none->H' b=none)
  (there:∀b o,b∉ch->s.heap.get? b=some o->∃o',h'.get? b=some o')
  (tups:∀b xs,H b=some (.tup xs)->H' b=some (.tup xs)) (frzs:∀b o u,H b=some (.frz o u)->H' b=some (.frz o u)) (tbls:∀b ps,H b=some (.tbl ps)->∃more,H' b=some (.tbl (ps++more)))
  (ns:∀m,s.heap.Ns X.env.locals m->h'.Ns X.env.locals m) (hok:HOk X.prog X.w H' h') (hg:AllBare g'):
  Inv X pins σ H' {s with heap:=h',gens:=g',drawn:=d',toks:=t'}:=by
 have neL:∀b o,X.s₀.heap.get? b=some o->b≠X.env.locals:=λb o e=>zP (zH (yV e) I.ok.above);have neC:∀b o,X.s₀.heap.get? b=some o->b∉X.ex->b∉ch:=λb o e hx hb=>by
  rcases(hch b hb).1 with z|z
  ·exact hx z
  ·exact absurd (zH (yV e) z) (aAD _)
 have cellK:∀x c,X.env.cells.lookup x=some c->∀v,s.heap.IsCell c v->h'.IsCell c v:=λx c e v ⟨o,ho,hd⟩=>by
  have nch:c∉ch:=λz=>(hch c z).2.2.1 x c e rfl;by_cases hc:c∈X.fs
  ·obtain⟨sl,q⟩:=slot c o (I.cne x c e) hc nch ho (I.freeC x c e)
   exact⟨_,q,hd⟩
  ·exact⟨o,keep c o (I.cne x c e) hc nch ho (I.freeC x c e),hd⟩
 refine⟨I.ok,I.os,hg,⟨λb o e n hb hx=>?_,λb o e n hb hx=>?_,λb o e n hx=>?_,λb o e hx=>?_,λb xs e=>tups b xs (I.base.tups b xs e),λb o xs e=>frzs b o xs (I.base.frzs b o xs e),λb ps e=>?_⟩,?_,λx c e=>?_,?_,λx c e=>?_,λp hp=>?_,hok,I.len⟩
 ·exact keep b o (neL b o e) hb (neC b o e hx) (I.base.keep b o e n hb hx) (I.base.free b o e n hx)
 ·obtain⟨sl,e1⟩:=I.base.slot b o e n hb hx
  obtain⟨sl',e2⟩:=slot b _ (neL b o e) hb (neC b o e hx) e1 (I.base.free b o e n hx);exact⟨sl',e2⟩
 ·obtain⟨o',e1⟩:=I.base.there b o e hx
  exact free b o' (neC b o e hx) e1 (I.base.free b o e n hx)
 ·obtain⟨o',e1⟩:=I.base.there b o e hx
  exact there b o' (neC b o e hx) e1
 ·obtain⟨m1,e1⟩:=I.base.tbls b ps e
  obtain⟨m2,e2⟩:=tbls b _ e1;exact⟨m1++m2,by rw[e2,Array.append_assoc]⟩
 ·obtain⟨m,hn,hl⟩:=I.loc
  refine⟨m,ns m hn,λi x v e1 e2 e3=>?_⟩;obtain⟨u,r,l⟩:=hl i x v e1 e2 e3;refine⟨u,r,?_⟩;rcases l with l|⟨k,c,e,z⟩
  ·exact .inl l
  ·exact .inr ⟨k,c,e,cellK x c e _ z⟩
 ·obtain⟨v,z⟩:=I.cell x c e
  exact⟨v,cellK x c e v z⟩
 ·obtain⟨m,⟨o,_,_,ho,_⟩,_⟩:=I.loc
  exact free _ o (λz=>(hch _ z).2.1 rfl) ho I.free
 ·obtain⟨v,o,ho,hd⟩:=I.cell x c e
  exact free c o (λz=>(hch c z).2.2.1 x c e rfl) ho (I.freeC x c e)
 ·obtain⟨e,n,ne,nf,d⟩:=I.pin p hp
  have nch:p.1∉ch:=λz=>(hch p.1 z).2.2.2 p hp rfl;exact⟨keep p.1 p.2 ne nf nch e n,free p.1 p.2 nch e n,ne,nf,d⟩
theorem Inv.un{t':Nat}(I:Inv X pins σ H s)(u:Un X.fs [] H H' s.heap h')(hok:HOk X.prog X.w H' h'):Inv X pins σ H' {s with heap:=h',toks:=t'}:=by
 obtain⟨m,⟨o,es,ep,ho,r⟩,_⟩:=id I.loc;obtain⟨sl,hL⟩:=u.any ho I.free (by simp);exact I.step (g':=s.gens) (d':=s.drawn) (ch:=[]) (λ_ z=>nomatch z) (λb o _ hb _ e n=>u.keep b o e n hb (by simp)) (λb o _ hb _ e n=>u.slot b o e n hb (by simp)) (λb o _ e n=>u.free b o e n (by simp)) (λb o _ e=>u.there b o e (by simp)) u.tups u.frzs u.tbls (λm' hm=>by
  obtain⟨o',es',ep',ho',r'⟩:=hm;rw[ho] at ho';cases ho';exact⟨_,es',ep',hL,r'⟩) hok I.bare
theorem Inv.call{g':Array GenState}{t':Nat}{d':Drawn}{ch:List Addr}(I:Inv X pins σ H s)(u:Un (frs X.stack) ch H H' s.heap h')(hok:HOk X.prog X.w H' h')(hg:AllBare g')
  (hch:∀b∈ch,(b∈X.ex\/X.s₀.heap.objs.size<=b)/\b≠X.env.locals/\(∀x c,X.env.cells.lookup x=some c->c≠b)/\∀p∈X.pn++pins,p.1≠b):
  Inv X pins σ H' {s with heap:=h',gens:=g',drawn:=d',toks:=t'}:=by
 obtain⟨m,⟨o,es,ep,ho,r⟩,_⟩:=id I.loc;obtain⟨sl,hL⟩:=u.any ho I.free λz=>(hch _ z).2.1 rfl;exact I.step (ch:=ch) hch (λb o hL hb hc e n=>u.keep b o e n (λz=>(List.mem_cons.mp (I.stkSub b z)).elim hL hb) hc) (λb o _ _ hc e n=>u.any e n hc) (λb o hc e n=>u.free b o e n hc) (λb o hc e=>u.there b o e hc) u.tups u.frzs u.tbls (λm' hm=>by
  obtain⟨o',es',ep',ho',r'⟩:=hm;rw[ho] at ho';cases ho';exact⟨_,es',ep',hL,r'⟩) hok hg
theorem Inv.turned{t':Nat}{it:Addr}(I:Inv X pins σ H s)(k:∀b o,b≠it->s.heap.get? b=some o->h'.get? b=some o)(hn:H it=none)(hL:it≠X.env.locals)
  (h1:it∈X.ex\/X.s₀.heap.objs.size<=it) (h2:∀x c,X.env.cells.lookup x=some c->c≠it) (h3:∀p∈X.pn++pins,p.1≠it):Inv X pins σ H {s with heap:=h',toks:=t'}:=by
 have nit:∀b u,H b=some u->b≠it:=λb u e z=>by rw[z,hn] at e;cases e
 refine I.step (g':=s.gens) (d':=s.drawn) (ch:=[it]) (λb hb=>?_) (λb o _ _ hc e _=>k b o (λz=>hc (by simp[z])) e) (λb o _ _ hc e _=>⟨o.slots,k b o (λz=>hc (by simp[z])) e⟩) (λ_ _ _ _ n=>n)
  (λb o hc e=>⟨o,k b o (λz=>hc (by simp[z])) e⟩) (λ_ _ e=>e) (λ_ _ _ e=>e) (λb ps e=>⟨#[],by rw[e];simp⟩) (λm hm=>?_) (λb u e=>?_) I.bare
 ·have e:b=it:=by simpa using hb
  subst e;exact⟨h1,hL,h2,h3⟩
 ·obtain⟨o,es,ep,ho,r⟩:=hm
  exact⟨o,es,ep,k _ o (zL hL) ho,r⟩
 ·refine(I.hok b u e).stay (λc v hc q=>k c v ?_ q) (λ_ q=>q) λ_ _ q=>q
  rcases hc with z|z
  ·rw[z];exact nit b u e
  ·exact nit c _ z
theorem Inv.tok(I:Inv X pins σ H s)(t:Nat):Inv X pins σ H {s with toks:=t}:=I.un (h':=s.heap) (t':=t) Un.refl I.hok
theorem Inv.kept{t':Nat}(I:Inv X pins σ H s)(k:∀b u,s.heap.get? b=some u->h'.get? b=some u):Inv X pins σ H {s with heap:=h',toks:=t'}:=I.un (Un.kept k) (I.hok.kept k)
theorem Inv.laid{a:Addr}{o:HO}{t':Nat}(I:Inv X pins σ H s)(k:∀b u,s.heap.get? b=some u->h'.get? b=some u)(hp:s.heap.objs.size<=a)(new:ObjOk X.prog X.w (upd H a o) h' a o):
  Inv X pins σ (upd H a o) {s with heap:=h',toks:=t'}:=I.un (Un.laid k hp (I.hok.fresh hp)) (I.hok.laid k hp new)
theorem Inv.write{x e:Addr}{o:HO}{t':Nat}(I:Inv X pins σ H s)(mu:Mut (H x))(he:e=x\/H e=some (.own x))(k:∀b u,b≠e->s.heap.get? b=some u->h'.get? b=some u)(heo:∃u,h'.get? e=some u)
  (new:ObjOk X.prog X.w (upd H x o) h' x o):Inv X pins σ (upd H x o) {s with heap:=h',toks:=t'}:=I.un (Un.write mu he k heo) (I.hok.write mu he k heo new)
theorem Inv.pins_of(I:Inv X pins σ H s)(h:∀p∈pins',s.heap.get? p.1=some p.2/\H p.1=none/\p.1≠X.env.locals/\p.1∉X.fs/\∀v,p.2.data≠.cell v):Inv X pins' σ H s:=
 ⟨I.ok,I.os,I.bare,I.base,I.loc,I.cell,I.free,I.freeC,λp hp=>(List.mem_append.mp hp).elim (λz=>I.pin p (List.mem_append_left _ z)) (h p),I.hok,I.len⟩
theorem l8{N:List Str}(hN:N.Nodup){i j:Nat}(a:N[i]?=some x)(b:N[j]?=some x):i=j:=by
 obtain⟨h1,e1⟩:=List.getElem?_eq_some_iff.mp a;obtain⟨h2,e2⟩:=List.getElem?_eq_some_iff.mp b;exact(List.getElem_inj hN).mp (e1.trans e2.symm)
theorem sK{M:Model}{A:Around}{E:Value->Shared->Prop}{i:Nat}{x:Str}{v:V}{u:Value}{Q:Unit->Shared->Prop}(I:Inv X pins σ H s)(hN:X.N.Nodup)(hi:X.N[i]?=some x)(hx:Loc X.env.scope x)(r:RelV v u)
  (h:∀s',Inv X pins (σ.set i (some v)) H s'->(∃a,Heap.SameBut a s.heap s'.heap/\(a=X.env.locals\/X.env.cells.lookup x=some a))->Q () s') (hf:X.fn x=true\/X.env.scope.names.lookup x=some .local:=by first|exact .inl rfl|exact .inr rfl|assumption):wpAny M A (storeName X.env x u) Q E s:=by
 obtain⟨m,hn,hl⟩:=id I.loc;have hcls:(X.env.scope.kind== .class||(X.env.scope.kind== .module&&X.env.locals !=X.env.globals))=false:=by rw[I.ok.kind];rfl
 have hiσ:i<σ.length:=by rw[I.len];exact(List.getElem?_eq_some_iff.mp hi).1
 have cne:=I.cne;have tracked:∀{a:Addr}{h':Heap},(∃o,s.heap.get? a=some o/\H a=none)->Heap.SameBut a s.heap h'->HOk X.prog X.w H h':=λ{a h'} ha hs b ob e=>by
  obtain⟨_,_,hfree⟩:=ha;refine(I.hok b ob e).stay (λc w' hc q=>(hs.2 c ?_).trans q) (λ_ q=>q) λ_ _ q=>q;rintro rfl;rcases hc with rfl|hc
  ·rw[hfree] at e;cases e
  ·rw[hfree] at hc;cases hc
 rcases hx with hk|hk
 ·refine wpAny_storeName_local hk hn (λh' hn' hs=>?_) hcls
  obtain⟨oL,_,_,hoL,_⟩:=id hn;refine h _ ⟨I.ok,I.os,I.bare,⟨λb o e n hb hx=>?_,λb o e n hb hx=>?_,I.base.free,λb o e hx=>?_,I.base.tups,I.base.frzs,I.base.tbls⟩,⟨_,hn',λj y v' e1 e2 e3=>?_⟩,λy c e=>?_,I.free,I.freeC,λp hp=>?_,tracked ⟨oL,hoL,I.free⟩ hs,by simpa using I.len⟩ ⟨_,hs,.inl rfl⟩
  ·exact(hs.2 b (zP (zH (yV e) I.ok.above))).trans (I.base.keep b o e n hb hx)
  ·obtain⟨sl,e1⟩:=I.base.slot b o e n hb hx
   exact⟨sl,(hs.2 b (zP (zH (yV e) I.ok.above))).trans e1⟩
  ·obtain⟨o',e1⟩:=I.base.there b o e hx
   exact⟨o',(hs.2 b (zP (zH (yV e) I.ok.above))).trans e1⟩
  ·by_cases hj:j=i
   ·subst hj
    rw[hi] at e1;cases e1;rw[zD hiσ] at e2;cases e2;exact⟨u,r,.inl ⟨hk,by simp⟩⟩
   ·rw[zI (zL hj)] at e2
    obtain⟨u',r',q⟩:=hl j y v' e1 e2 e3;refine⟨u',r',?_⟩;rcases q with⟨k,e⟩|⟨k,c,e,z⟩
    ·refine .inl ⟨k,?_⟩
     have:y≠x:=λe=>hj (l8 hN e1 (e▸hi));simp[this,e]
    ·exact .inr ⟨k,c,e,z.sameBut hs (cne y c e)⟩
  ·obtain⟨w',z⟩:=I.cell y c e
   exact⟨w',z.sameBut hs (cne y c e)⟩
  ·obtain⟨e,n,ne,nf,d⟩:=I.pin p hp
   exact⟨(hs.2 p.1 ne).trans e,n,ne,nf,d⟩
 ·have hfn:X.fn x=true:=by
   rcases hf with z|z
   ·exact z
   ·rw[z] at hk;cases hk
  obtain⟨c,hc⟩:=I.ok.has x (.inl hk);obtain⟨w',z⟩:=I.cell x c hc;refine wpAny_storeName_cell I.ok.kind hk hc z (λh' hc' hs=>?_);obtain⟨oc,hoc,hocd⟩:=id z;refine h {s with heap:=h'} ⟨I.ok,I.os,I.bare,⟨λb o e n hb hx=>?_,λb o e n hb hx=>?_,I.base.free,λb o e hx=>?_,I.base.tups,I.base.frzs,I.base.tbls⟩,⟨m,hn.sameBut hs (zL (cne x c hc)),λj y v' e1 e2 e3=>?_⟩,λy c' e=>?_,I.free,I.freeC,λp hp=>?_,tracked ⟨oc,hoc,I.freeC x c hc⟩ hs,by simpa using I.len⟩ ⟨c,hs,.inr hc⟩
  ·exact(hs.2 b (zP (zH (yV e) (I.ok.cab x c hfn hc)))).trans (I.base.keep b o e n hb hx)
  ·obtain⟨sl,e1⟩:=I.base.slot b o e n hb hx
   exact⟨sl,(hs.2 b (zP (zH (yV e) (I.ok.cab x c hfn hc)))).trans e1⟩
  ·obtain⟨o',e1⟩:=I.base.there b o e hx
   exact⟨o',(hs.2 b (zP (zH (yV e) (I.ok.cab x c hfn hc)))).trans e1⟩
  ·by_cases hj:j=i
   ·subst hj
    rw[hi] at e1;cases e1;rw[zD hiσ] at e2;cases e2;exact⟨u,r,.inr ⟨.inl hk,c,hc,hc'⟩⟩
   ·rw[zI (zL hj)] at e2
    obtain⟨u',r',q⟩:=hl j y v' e1 e2 e3;refine⟨u',r',?_⟩;rcases q with q|⟨k,c',e,z'⟩
    ·exact .inl q
    ·refine .inr ⟨k,c',e,z'.sameBut hs ?_⟩
     rintro rfl;exact hj (l8 hN e1 (I.ok.inj _ _ _ e hc▸hi))
  ·by_cases hcc:c'=c
   ·subst hcc;exact⟨_,hc'⟩
   ·obtain⟨w2,z2⟩:=I.cell y c' e
    exact⟨w2,z2.sameBut hs hcc⟩
  ·obtain⟨e,n,ne,nf,d⟩:=I.pin p hp
   refine⟨(hs.2 p.1 ?_).trans e,n,ne,nf,d⟩;intro q;rw[q,hoc] at e;have q':oc=p.2:=y8 e;exact d w' (by rw[←q'];exact hocd)
theorem l9{M:Model}{A:Around}{E:Value->Shared->Prop}{i:Nat}{x:Str}{v:V}{u:Value}{Q:Unit->Shared->Prop}(I:Inv X pins σ H s)(hN:X.N.Nodup)(hi:X.N[i]?=some x)(hx:Loc X.env.scope x)(r:RelV v u)
  (h:∀s',Inv X pins (σ.set i (some v)) H s'->Q () s') (hf:X.fn x=true\/X.env.scope.names.lookup x=some .local:=by first|exact .inl rfl|exact .inr rfl|assumption):wpAny M A (storeName X.env x u) Q E s:=
 sK I hN hi hx r (λs' I' _=>h s' I') hf
theorem Inv.call'(I:Inv X pins σ H s)(ho:s'.os=s.os)(u:Un (frs X.stack) ch H H' s.heap s'.heap)(hok:HOk X.prog X.w H' s'.heap)(hg:AllBare s'.gens)
  (hch:∀b∈ch,(b∈X.ex\/X.s₀.heap.objs.size<=b)/\b≠X.env.locals/\(∀x c,X.env.cells.lookup x=some c->c≠b)/\∀p∈X.pn++pins,p.1≠b):Inv X pins σ H' s':=by
 obtain⟨h',g',d',t',o'⟩:=s';have e:o'=s.os:=ho;subst e;exact I.call (g':=g') (t':=t') (d':=d') u hok hg hch
end
noncomputable abbrev XK:=Value->Option Addr->Hp->Prop
noncomputable abbrev St:=List (Option V)
noncomputable abbrev VK:=V->Hp->Prop
noncomputable abbrev TE:=St->Hp->VK->Prop
noncomputable abbrev TT:=St->Hp->(Bool->Hp->Prop)->Prop
noncomputable abbrev TA:=St->Hp->(List V->Hp->Prop)->Prop
structure Ends where
 nx:St->Hp->Prop
 rt:VK
 bk:St->Hp->Prop:=λ_ _=>False
 ct:St->Hp->Prop:=λ_ _=>False
noncomputable abbrev TS:=Ends->St->Hp->Prop
noncomputable def EP(X:Cx)(pins:List (Addr×Obj))(σ:St)(Q:VK)(u:Value)(s':Shared):Prop:=∃v H',Inv X pins σ H' s'/\RelV v u/\Q v H'
noncomputable def TP(X:Cx)(pins:List (Addr×Obj))(σ:St)(Q:Bool->Hp->Prop)(b:Bool)(s':Shared):Prop:=∃H',Inv X pins σ H' s'/\Q b H'
noncomputable def AP(X:Cx)(pins:List (Addr×Obj))(σ:St)(Q:List V->Hp->Prop)(us:List Value)(s':Shared):Prop:=∃vs H',Inv X pins σ H' s'/\Vals vs us/\Q vs H'
noncomputable def SP(X:Cx)(pins:List (Addr×Obj))(D:Ends)(f:Flow)(s':Shared):Prop:=
 match f with
 |.next=>∃σ' H',Inv X pins σ' H' s'/\D.nx σ' H'
 |.brk=>∃σ' H',Inv X pins σ' H' s'/\D.bk σ' H'
 |.cont=>∃σ' H',Inv X pins σ' H' s'/\D.ct σ' H'
 |.ret u=>∃v σ' H',Inv X pins σ' H' s'/\RelV v u/\D.rt v H'
noncomputable def PE(X:Cx)(e:Expr)(t:TE):Prop:=
 ∀(pins:List (Addr×Obj))(s:Shared)(σ:St)(H:Hp)(Q:VK),Inv X pins σ H s->t σ H Q->wpAny (model X.prog X.w) X.A (eval e X.env) (EP X pins σ Q) X.xe s
noncomputable def PT(X:Cx)(e:Expr)(t:TT):Prop:=
 ∀(pins:List (Addr×Obj))(s:Shared)(σ:St)(H:Hp)(Q:Bool->Hp->Prop),Inv X pins σ H s->t σ H Q->wpAny (model X.prog X.w) X.A (isTrue e X.env (eval e X.env)) (TP X pins σ Q) X.xe s
noncomputable def PW(X:Cx)(e:Expr)(t:TT):Prop:=
 ∀(whole:Sem Value)(pins:List (Addr×Obj))(s:Shared)(σ:St)(H:Hp)(Q:Bool->Hp->Prop),Inv X pins σ H s->t σ H Q->wpAny (model X.prog X.w) X.A (isTrue e X.env whole) (TP X pins σ Q) X.xe s
theorem PW.pt(h:PW X e t):PT X e t:=h _
noncomputable def PA(X:Cx)(es:List Expr)(t:TA):Prop:=
 ∀(pos:Pos)(pins:List (Addr×Obj))(s:Shared)(σ:St)(H:Hp)(Q:List V->Hp->Prop),Inv X pins σ H s->t σ H Q->wpAny (model X.prog X.w) X.A (spliced (backTo pos (starEach es X.env))) (AP X pins σ Q) X.xe s
noncomputable def PS(X:Cx)(st:Stmt)(t:TS):Prop:=
 ∀(pins:List (Addr×Obj))(s:Shared)(σ:St)(H:Hp)(D:Ends),Inv X pins σ H s->t D σ H->wpAny (model X.prog X.w) X.A (exec st X.env) (SP X pins D) X.xe s
noncomputable def PSs(X:Cx)(st:List Stmt)(t:TS):Prop:=
 ∀(pins:List (Addr×Obj))(s:Shared)(σ:St)(H:Hp)(D:Ends),Inv X pins σ H s->t D σ H->wpAny (model X.prog X.w) X.A (execs st X.env) (SP X pins D) X.xe s
theorem thn{α:Type}{t:Sem α}{Q Q':α->Shared->Prop}{M:Model}{A:Around}{E:Value->Shared->Prop}{s:Shared}(h:wpAny M A t Q E s)(hQ:∀a s,Q a s->Q' a s):wpAny M A t Q' E s:=z8 h hQ λ_ _ x=>x
section
variable{X:Cx}
theorem bin(ha:PE X a ta)(hb:PE X b tb){R:V->V->Hp->Prop}(I:Inv X pins σ H s)(h:ta σ H λx H1=>tb σ H1 λy H2=>R x y H2)
  {Q:α->Shared->Prop} {f:Value->Value->Sem α}
  (hf:∀v u s2 x y H2,Inv X pins σ H2 s2->RelV x v->RelV y u->R x y H2->wpAny (model X.prog X.w) X.A (f v u) Q X.xe s2):
  wpAny (model X.prog X.w) X.A (eval a X.env) (λv s₁=>wpAny (model X.prog X.w) X.A (eval b X.env) (λu s₂=>wpAny (model X.prog X.w) X.A (f v u) Q X.xe s₂) X.xe s₁) X.xe s:=by
 refine thn (ha pins s σ H _ I h) λv s1 ⟨x,H1,I1,r1,q1⟩=>?_;refine thn (hb pins s1 σ H1 _ I1 q1) λu s2 ⟨y,H2,I2,r2,q2⟩=>?_;exact hf v u s2 x y H2 I2 r1 r2 q2
noncomputable def tVar(i:Nat):TE:=λσ H Q=>∃v,σ[i]?=some (some v)/\Q v H
noncomputable def tC(v:V):TE:=λ_ H Q=>Q v H
theorem gM{i:Nat}{x:Str}{pos:Pos}(hN:X.N[i]?=some x)(hv:Vis X.env.scope x)(hd:(x==("__debug__":Str))=false:=by decide)(hcd:(x==("__classdict__":Str))=false:=by decide):PE X (.Name x pos) (tVar i):=by
 intro pins s σ H Q I h;obtain⟨v,e,h⟩:=h;obtain⟨m,hn,hl⟩:=I.loc;obtain⟨u,r,l⟩:=hl i x v hN e hv;have fin:EP X pins σ Q u s:=⟨v,H,I,r,h⟩
 rcases l with⟨hk,hm⟩|⟨hk,c,hc,hcell⟩
 ·exact wpAny_Name (wpAny_loadName_local I.ok.kind hk hn hm fin) hd
 ·rcases hk with hk|hk
  ·exact wpAny_Name (wpAny_loadName_cell I.ok.kind hk hc hcell fin) hd
  ·exact wpAny_Name (wpAny_loadName_free I.ok.kind hk hc hcell fin hcd) hd
theorem aG{i j pos}:PE X (.Constant (.int i) j pos) (tC (.int i)):=λ_ _ _ H _ I h=>wpAny_Constant_int ⟨.int i,H,I.tok _,⟨_,rfl⟩,h⟩
theorem pe_bl{b j pos}:PE X (.Constant (.bool b) j pos) (tC (.bl b)):=λ_ _ _ H _ I h=>Constant_bool ⟨.bl b,H,I,rfl,h⟩
theorem pe_str{x j pos}:PE X (.Constant (.str x) j pos) (tC (.str x)):=λ_ _ _ H _ I h=>Calls.Constant_str ⟨.str x,H,I.tok _,⟨_,rfl⟩,h⟩
noncomputable def Gl(X:Cx)(x:Str):Prop:=X.env.kindOf x=some .globalImplicit
theorem kK{E:Value->Shared->Prop}{pins:List (Addr×Obj)}{s:Shared}{σ:St}{H:Hp}{x:Str}{u:Value}{pos:Pos}{Q:Value->Shared->Prop}(I:Inv X pins σ H s)(hg:Gl X x)(hm:X.mg x=some u)(h:Q u s)
  (hd:(x==("__debug__":Str))=false:=by decide):wpAny (model X.prog X.w) X.A (eval (.Name x pos) X.env) Q E s:=
 Calls.Name_function_global I.ok.kind hg (Calls.loadGlobal_global (by rw[I.ok.glob];exact I.mod.glob.keeps I.bk) hm h) hd
theorem eG{E:Value->Shared->Prop}{pins:List (Addr×Obj)}{s:Shared}{σ:St}{H:Hp}{x:Str}{u:Value}{pos:Pos}{Q:Value->Shared->Prop}(I:Inv X pins σ H s)(hg:Gl X x)(hm:X.mg x=none)(hv:bootBuiltins x=some u)(h:Q u s)
  (hn:x≠"__name__":=by decide) (hd:(x==("__debug__":Str))=false:=by decide):wpAny (model X.prog X.w) X.A (eval (.Name x pos) X.env) Q E s:=by
 obtain⟨mb,h1,h2⟩:=I.mod.blt;exact Calls.Name_function_global I.ok.kind hg (Calls.loadGlobal_builtin (by rw[I.ok.glob];exact I.mod.glob.keeps I.bk) hm (by rw[I.ok.blt];exact h1.keeps I.bk) ((h2 x hn).trans hv) h) hd
theorem kL{x:Str}{v:V}{u:Value}{pos:Pos}(hg:Gl X x)(hm:X.mg x=some u)(r:RelV v u)(hd:(x==("__debug__":Str))=false:=by decide):PE X (.Name x pos) (tC v):=
 λ_ _ _ H _ I h=>kK I hg hm ⟨v,H,I,r,h⟩ hd
theorem pe_bltn{x:Str}{v:V}{u:Value}{pos:Pos}(hg:Gl X x)(hm:X.mg x=none)(hv:bootBuiltins x=some u)(r:RelV v u)(hn:x≠"__name__":=by decide)(hd:(x==("__debug__":Str))=false:=by decide):PE X (.Name x pos) (tC v):=
 λ_ _ _ H _ I h=>eG I hg hm hv ⟨v,H,I,r,h⟩ hn hd
noncomputable def t2I(ta tb:TE)(k:Int->Int->Hp->Prop):St->Hp->Prop:=λσ H=>ta σ H λx H1=>tb σ H1 λy H2=>∃i j,x=.int i/\y=.int j/\k i j H2
noncomputable def tAdd(ta tb:TE):TE:=λσ H Q=>t2I ta tb (λi j H2=>Q (.int (i+j)) H2) σ H
variable{a b:Expr}{ta tb:TE}{pos:Pos}
theorem oP(ha:PE X a ta)(hb:PE X b tb):PE X (.BinOp a .Add b pos) (tAdd ta tb):=by
 intro pins s σ H Q I h;refine wpAny_BinOp (bin ha hb I h λv u s2 x y H2 I2 rx ry q=>?_);obtain⟨i,j,rfl,rfl,q⟩:=q;obtain⟨t,rfl⟩:=rx;obtain⟨t',rfl⟩:=ry;exact add_int ⟨.int _,H2,I2.tok _,⟨_,rfl⟩,q⟩
noncomputable def PC(X:Cx)(op:CmpOp)(a b:Expr)(t:TE):Prop:=
 ∀(pins:List (Addr×Obj))(s:Shared)(σ:St)(H:Hp)(Q:VK),Inv X pins σ H s->t σ H Q->
  wpAny (model X.prog X.w) X.A (eval a X.env) (λv s₁=>wpAny (model X.prog X.w) X.A (eval b X.env) (λu s₂=>wpAny (model X.prog X.w) X.A (compareOp op v u) (EP X pins σ Q) X.xe s₂) X.xe s₁) X.xe s
theorem nobehind(b:Expr)(h:op≠.In)(h2:op≠.NotIn):behindInMarks op b=false:=by
 have e1:(op==CmpOp.In)=false:=by cases op<;>first|rfl|exact absurd rfl h
 have e2:(op==CmpOp.NotIn)=false:=by cases op<;>first|rfl|exact absurd rfl h2
 cases b<;>simp[behindInMarks,e1,e2]
noncomputable def tCmp(p:Int->Int->Bool)(ta tb:TE):TE:=λσ H Q=>t2I ta tb (λi j H2=>Q (.bl (p i j)) H2) σ H
noncomputable abbrev tGt:TE->TE->TE:=tCmp λi j=>decide (j<i)
noncomputable abbrev tEqI:TE->TE->TE:=tCmp λi j=>decide (i=j)
theorem uM(ha:PE X a ta)(hb:PE X b tb)
  (rule:∀(i j:Int)(t u:Tok)(Q:Value->Shared->Prop)(s:Shared),Q (.bool (p i j)) s->wpAny (model X.prog X.w) X.A (compareOp op (.int i t) (.int j u)) Q X.xe s):PC X op a b (tCmp p ta tb):=by
 intro pins s σ H Q I h;refine bin ha hb I h λv u s2 x y H2 I2 rx ry q=>?_;obtain⟨i,j,rfl,rfl,q⟩:=q;obtain⟨t,rfl⟩:=rx;obtain⟨t',rfl⟩:=ry;exact rule i j t t' _ s2 ⟨.bl _,H2,I2,rfl,q⟩
theorem pc_gt(ha:PE X a ta)(hb:PE X b tb):PC X .Gt a b (tGt ta tb):=uM ha hb λ_ _ _ _ _ _ h=>gt_int h
theorem uN(ha:PE X a ta)(hb:PE X b tb):PC X .Eq a b (tEqI ta tb):=uM ha hb λ_ _ _ _ _ _ h=>eq_int (by rw[Bool.beq_eq_decide_eq];exact h)
noncomputable def tB(t:TE):TT:=λσ H Q=>t σ H λx H1=>∃c,x=.bl c/\Q c H1
theorem kM(h:PC X op a b t)(h1:behindInMarks op b=false:=by first|exact nobehind _ (by decide) (by decide)|rfl):PT X (.Compare a [op] [b] pos) (tB t):=by
 intro pins s σ H Q I hw;refine wpAny_isTrue_Compare1 (thn (h pins s σ H _ I hw) λv s1 h1=>thn h1 λu s2 h2=>thn h2 λc s3 ⟨x,H1,I1,r1,q1⟩=>?_) h1;obtain⟨d,rfl,q⟩:=q1;cases r1;exact wpAny_truthy_bool ⟨H1,I1,q⟩
variable{tA tB':TT}{rest:List Expr}
noncomputable def tAnd(t u:TT):TT:=λσ H Q=>t σ H λc H1=>if c=true then u σ H1 Q else Q false H1
noncomputable def tOr(t u:TT):TT:=λσ H Q=>t σ H λc H1=>if c=true then Q true H1 else u σ H1 Q
noncomputable def tNot(t:TT):TT:=λσ H Q=>t σ H λc H1=>Q (!c) H1
theorem pw_and1(ha:PT X a tA):PW X (.BoolOp .And [a] pos) tA:=by
 intro wh pins s σ H Q I h;refine isTrue_and (thn (ha pins s σ H Q I h) λc s1 e=>?_)
 cases c with
 |true=>exact isTrue_and_nil e
 |false=>exact e
theorem pw_or1(ha:PT X a tA):PW X (.BoolOp .Or [a] pos) tA:=by
 intro wh pins s σ H Q I h;refine isTrue_or (thn (ha pins s σ H Q I h) λc s1 e=>?_)
 cases c with
 |false=>exact isTrue_or_nil e
 |true=>exact e
theorem pw_and(ha:PT X a tA)(hb:PW X (.BoolOp .And (b::rest) pos) tB'):PW X (.BoolOp .And (a::b::rest) pos) (tAnd tA tB'):=by
 intro wh pins s σ H Q I h;refine isTrue_and (thn (ha pins s σ H _ I h) λc s1 ⟨H1,I1,q1⟩=>?_)
 cases c with
 |true=>exact hb wh pins s1 σ H1 Q I1 q1
 |false=>exact⟨H1,I1,q1⟩
theorem pw_or(ha:PT X a tA)(hb:PW X (.BoolOp .Or (b::rest) pos) tB'):PW X (.BoolOp .Or (a::b::rest) pos) (tOr tA tB'):=by
 intro wh pins s σ H Q I h;refine isTrue_or (thn (ha pins s σ H _ I h) λc s1 ⟨H1,I1,q1⟩=>?_)
 cases c with
 |true=>exact⟨H1,I1,q1⟩
 |false=>exact hb wh pins s1 σ H1 Q I1 q1
theorem pt_not(ha:PT X a tA):PT X (.UnaryOp .Not a pos) (tNot tA):=by
 intro pins s σ H Q I h;exact isTrue_not (ha pins s σ H (λc H1=>Q (!c) H1) I h)
noncomputable def tAndV(ta tb:TE):TE:=λσ H Q=>ta σ H λx H1=>∃c,x=.bl c/\if c=true then tb σ H1 Q else Q (.bl false) H1
noncomputable def tNotV(ta:TE):TE:=λσ H Q=>ta σ H λx H1=>∃c,x=.bl c/\Q (.bl (!c)) H1
theorem pe_one{op}(h:PE X a t):PE X (.BoolOp op [a] pos) t:=λpins s σ H Q I hw=>BoolOp_one (h pins s σ H Q I hw)
theorem pe_and(ha:PE X a ta)(hb:PE X (.BoolOp .And (b::rest) pos) tb):PE X (.BoolOp .And (a::b::rest) pos) (tAndV ta tb):=by
 intro pins s σ H Q I h;refine BoolOp_and (thn (ha pins s σ H _ I h) λv s1 ⟨x,H1,I1,r1,q1⟩=>?_);obtain⟨c,rfl,q1⟩:=q1;cases r1;refine wpAny_truthy_bool ?_
 cases c with
 |true=>exact hb pins s1 σ H1 Q I1 q1
 |false=>exact⟨.bl false,H1,I1,rfl,q1⟩
theorem pe_not(ha:PE X a ta):PE X (.UnaryOp .Not a pos) (tNotV ta):=by
 intro pins s σ H Q I h;refine UnaryOp_ (thn (ha pins s σ H _ I h) λv s1 ⟨x,H1,I1,r1,q1⟩=>?_);obtain⟨c,rfl,q1⟩:=q1;cases r1;exact not_of (wpAny_truthy_bool ⟨.bl (!c),H1,I1,rfl,q1⟩)
noncomputable def tIf(t:TT)(ta tb:TE):TE:=λσ H Q=>t σ H λc H1=>if c=true then ta σ H1 Q else tb σ H1 Q
theorem uO(hc:PT X c tA)(ha:PE X a ta)(hb:PE X b tb):PE X (.IfExp c a b pos) (tIf tA ta tb):=by
 intro pins s σ H Q I h;refine wpAny_IfExp (thn (hc pins s σ H _ I h) λd s1 ⟨H1,I1,q1⟩=>?_)
 cases d with
 |true=>exact ha pins s1 σ H1 Q I1 q1
 |false=>exact hb pins s1 σ H1 Q I1 q1
end
noncomputable def SqL(K:PySem.W.Frag)(H:Hp)(a:Addr)(xs:List V):Prop:=
 Rd H a (.lst xs)\/
  ∃(o:Obj)(its:Array Value)(n:Nat),K.lookup a=some o/\o.cls=.type "list"/\o.dict=none/\o.data=.seq its n/\its.size<=sizeLine/\Vals xs its.toList
noncomputable def SqT(K:PySem.W.Frag)(H:Hp)(a:Addr)(xs:List V):Prop:=
 Rd H a (.tup xs)\/
  ∃(o:Obj)(its:Array Value)(n:Nat),K.lookup a=some o/\o.cls=.type "tuple"/\o.data=.seq its n/\its.size<=sizeLine/\Vals xs its.toList
noncomputable def absV:Value->Option V
 |.none=>some .non
 |.bool b=>some (.bl b)
 |.int i _=>some (.int i)
 |.str x _=>some (.str x)
 |.bytes b _=>some (.byt b)
 |.float b _=>some (.flt b)
 |.ref a=>some (.ref a)
 |.type n=>some (.ty n)
 |_=>none
theorem RelV.abs(r:RelV x u):absV u=some x:=by
 cases x with
 |non=>cases r;rfl
 |bl _=>cases r;rfl
 |int _=>obtain⟨t,rfl⟩:=r;rfl
 |str _=>obtain⟨t,rfl⟩:=r;rfl
 |byt _=>obtain⟨t,rfl⟩:=r;rfl
 |flt _=>obtain⟨t,rfl⟩:=r;rfl
 |ref _=>cases r;rfl
 |ty _=>cases r;rfl
theorem RelV.inj(r:RelV x u)(q:RelV y u):x=y:=y8 (r.abs.symm.trans q.abs)
theorem Vals.inj:∀{xs ys:List V}{us:List Value},Vals xs us->Vals ys us->xs=ys
 |_,_,_,.nil,.nil=>rfl
 |_,_,_,.cons r t,.cons r' t'=>by rw[r.inj r',Vals.inj t t']
section
variable{X:Cx}{pins:List (Addr×Obj)}{σ:St}{H:Hp}{s:Shared}{a:Addr}{xs ys:List V}
theorem SqL.of{K:PySem.W.Frag}(h:H a=some (.lst xs)):SqL K H a xs:=.inl (.inl h)
theorem SqT.of{K:PySem.W.Frag}(h:H a=some (.tup xs)):SqT K H a xs:=.inl (.inl h)
theorem Inv.list(I:Inv X pins σ H s)(h:SqL X.K H a xs):∃its:List Value,Vals xs its/\PlainL s.heap a its.toArray/\xs.length<=sizeLine:=by
 rcases h with h|⟨o,its,n,hk,hc,hd,hs,hz,r⟩
 ·obtain⟨z,its,n,r,e⟩:=h.ok I.hok
  exact⟨its,r,⟨_,n,e,rfl,rfl,rfl⟩,z⟩
 ·refine⟨its.toList,r,⟨o,n,I.kIn a o hk,hc,hd,by simpa using hs⟩,?_⟩
  have e:=r.length;simp only[Array.length_toList] at e;omega
theorem Inv.tuple(I:Inv X pins σ H s)(h:SqT X.K H a xs):∃its:List Value,Vals xs its/\IsTup s.heap a its.toArray/\xs.length<=sizeLine:=by
 rcases h with h|⟨o,its,n,hk,hc,hs,hz,r⟩
 ·obtain⟨z,its,r,p⟩:=h.ok I.hok
  exact⟨its,r,p,z⟩
 ·refine⟨its.toList,r,⟨o,I.kIn a o hk,hc,n,by simpa using hs⟩,?_⟩
  have e:=r.length;simp only[Array.length_toList] at e;omega
theorem Inv.list_inj(I:Inv X pins σ H s)(h:SqL X.K H a xs)(h':SqL X.K H a ys):xs=ys:=by
 obtain⟨its,r,⟨o,n,e,_,_,d⟩,_⟩:=I.list h;obtain⟨its',r',⟨o',n',e',_,_,d'⟩,_⟩:=I.list h';rw[e] at e';cases e';rw[d] at d'
 injection d' with d1 _
 have:its=its':=by simpa using congrArg Array.toList d1
 subst this;exact r.inj r'
theorem Inv.tuple_inj(I:Inv X pins σ H s)(h:SqT X.K H a xs)(h':SqT X.K H a ys):xs=ys:=by
 obtain⟨its,r,⟨o,e,_,n,d⟩,_⟩:=I.tuple h;obtain⟨its',r',⟨o',e',_,n',d'⟩,_⟩:=I.tuple h';rw[e] at e';cases e';rw[d] at d'
 injection d' with d1 _
 have:its=its':=by simpa using congrArg Array.toList d1
 subst this;exact r.inj r'
end
noncomputable abbrev Cx.wish(X:Cx)(E:Value->Shared->Prop):Cx:={X with xe:=E}
noncomputable abbrev Cx.nox(X:Cx):Cx:=X.wish λ_ _=>False
theorem Cx.Ok.wish{X:Cx}(ok:X.Ok)(E:Value->Shared->Prop):(X.wish E).Ok:=
 ⟨ok.mod,ok.kind,ok.glob,ok.blt,ok.above,ok.inj,ok.has,ok.cab,ok.hd,ok.frames,ok.stk,ok.exf,ok.bs,ok.bsz,ok.noex,ok.exfs,ok.funs,ok.frf⟩
theorem Cx.Ok.unwish{X:Cx}(ok:(X.wish E).Ok):X.Ok:=
 ⟨ok.mod,ok.kind,ok.glob,ok.blt,ok.above,ok.inj,ok.has,ok.cab,ok.hd,ok.frames,ok.stk,ok.exf,ok.bs,ok.bsz,ok.noex,ok.exfs,ok.funs,ok.frf⟩
section
variable{X:Cx}{pins:List (Addr×Obj)}{σ:St}{H:Hp}{s:Shared}{E:Value->Shared->Prop}
theorem Inv.wish(I:Inv X pins σ H s)(E:Value->Shared->Prop):Inv (X.wish E) pins σ H s:=⟨I.ok.wish E,I.os,I.bare,I.base,I.loc,I.cell,I.free,I.freeC,I.pin,I.hok,I.len⟩
theorem Inv.unwish(I:Inv (X.wish E) pins σ H s):Inv X pins σ H s:=⟨I.ok.unwish,I.os,I.bare,I.base,I.loc,I.cell,I.free,I.freeC,I.pin,I.hok,I.len⟩
theorem SP.unwish(h:SP (X.wish E) pins D f s'):SP X pins D f s':=by
 cases f with
 |next=>obtain⟨σ',H',I,q⟩:=h;exact⟨σ',H',I.unwish,q⟩
 |brk=>obtain⟨σ',H',I,q⟩:=h;exact⟨σ',H',I.unwish,q⟩
 |cont=>obtain⟨σ',H',I,q⟩:=h;exact⟨σ',H',I.unwish,q⟩
 |ret u=>obtain⟨v,σ',H',I,r,q⟩:=h;exact⟨v,σ',H',I.unwish,r,q⟩
end
section
variable{X:Cx}{st:Stmt}{rest:List Stmt}{t u:TS}{e:Expr}{te:TE}{pos:Pos}
noncomputable def tNext:TS:=λD σ H=>D.nx σ H
noncomputable def tSeq(t u:TS):TS:=λD σ H=>t {D with nx:=u D} σ H
theorem kN:PSs X [] tNext:=λ_ _ σ H _ I h=>wpAny_execs_nil ⟨σ,H,I,h⟩
theorem aE(h1:PS X st t)(h2:PSs X rest u):PSs X (st::rest) (tSeq t u):=by
 intro pins s σ H D I h;refine wpAny_execs_cons (thn (h1 pins s σ H {D with nx:=u D} I h) λf s1 q=>?_)
 cases f with
 |next=>
  obtain⟨σ',H',I',q⟩:=q;exact h2 pins s1 σ' H' D I' q
 |ret v=>exact q
 |brk=>exact q
 |cont=>exact q
theorem aI(h1:PS X st t):PSs X [st] t:=by
 intro pins s σ H D I h;refine wpAny_execs_cons (thn (h1 pins s σ H D I h) λf s1 q=>?_)
 cases f with
 |next=>exact wpAny_execs_nil q
 |ret v=>exact q
 |brk=>exact q
 |cont=>exact q
theorem Inv.quiet(I:Inv X pins σ H s):interactive X.env=false:=by simp[interactive,I.ok.kind]
noncomputable def tDrop(te:TE):TS:=λD σ H=>te σ H λ_ H1=>D.nx σ H1
theorem qH(he:PE X e te)(hs:swapsWith e none pos.line X.env=pure false:=by rfl):PS X (.Expr e pos) (tDrop te):=by
 intro pins s σ H D I h;exact wpAny_Expr_any (thn (he pins s σ H _ I h) λv s1 ⟨x,H1,I1,r1,q1⟩=>⟨σ,H1,I1,q1⟩) I.quiet hs
noncomputable def tRet(te:TE):TS:=λD σ H=>te σ H D.rt
theorem cP(he:PE X e te):PS X (.Return (some e) pos) (tRet te):=by
 intro pins s σ H D I h;exact wpAny_Return_some (thn (he pins s σ H _ I h) λv s1 ⟨x,H1,I1,r1,q1⟩=>⟨x,σ,H1,I1,r1,q1⟩)
noncomputable def tIfS(c:TT)(t u:TS):TS:=λD σ H=>c σ H λb H1=>if b=true then t D σ H1 else u D σ H1
theorem uP(hc:PT X c tc)(ha:PSs X a t)(hb:PSs X b u):PS X (.If c a b pos) (tIfS tc t u):=by
 intro pins s σ H D I h;refine wpAny_If (thn (hc pins s σ H _ I h) λd s1 ⟨H1,I1,q1⟩=>?_)
 cases d with
 |true=>exact ha pins s1 σ H1 D I1 q1
 |false=>exact hb pins s1 σ H1 D I1 q1
end
noncomputable abbrev TG:=V->St->Hp->(St->Hp->Prop)->Prop
noncomputable abbrev TGs:=List V->St->Hp->(St->Hp->Prop)->Prop
noncomputable def PG(X:Cx)(target:Expr)(t:TG):Prop:=
 ∀(pins:List (Addr×Obj))(s:Shared)(σ:St)(H:Hp)(v:V)(u:Value)(Q:St->Hp->Prop),Inv X pins σ H s->RelV v u->t v σ H Q->
  wpAny (model X.prog X.w) X.A (assign target X.env u) (λ_ s'=>∃σ' H',Inv X pins σ' H' s'/\Q σ' H') X.xe s
noncomputable def PGs(X:Cx)(ts:List Expr)(t:TGs):Prop:=
 ∀(pins:List (Addr×Obj))(s:Shared)(σ:St)(H:Hp)(vs:List V)(us:List Value)(Q:St->Hp->Prop),Inv X pins σ H s->Vals vs us->t vs σ H Q->
  wpAny (model X.prog X.w) X.A (assignInOrder ((assignEach ts X.env).map (·.2)) us) (λ_ s'=>∃σ' H',Inv X pins σ' H' s'/\Q σ' H') X.xe s
noncomputable abbrev TSet:=V->V->V->Hp->(Hp->Prop)->Prop
noncomputable def PSet(X:Cx)(t:TSet):Prop:=
 ∀(pins:List (Addr×Obj))(s:Shared)(σ:St)(H:Hp)(o i v:V)(ov iv u:Value)(Q:Hp->Prop),Inv X pins σ H s->RelV o ov->RelV i iv->RelV v u->t o i v H Q->
  wpAny (model X.prog X.w) X.A (setItem ov iv u) (λ_ s'=>∃H',Inv X pins σ H' s'/\Q H') X.xe s
section
variable{X:Cx}{pos:Pos}
noncomputable def gName(i:Nat):TG:=λv σ H Q=>Q (σ.set i (some v)) H
theorem fZ(hN:X.N.Nodup)(hi:X.N[i]?=some x)(hx:Loc X.env.scope x)(hf:X.fn x=true\/X.env.scope.names.lookup x=some .local:=by first|exact .inl rfl|exact .inr rfl|assumption):PG X (.Name x pos) (gName i):=by
 intro pins s σ H v u Q I r h;exact wpAny_assign_Name (l9 I hN hi hx r (λs' I'=>⟨_,H,I',h⟩) hf)
noncomputable def gNil:TGs:=λvs σ H Q=>vs=[]/\Q σ H
noncomputable def gCons(t:TG)(u:TGs):TGs:=λvs σ H Q=>∃v r,vs=v::r/\t v σ H λσ' H'=>u r σ' H' Q
theorem pgs_nil:PGs X [] gNil:=by
 intro pins s σ H vs us Q I r h;obtain⟨e,h⟩:=h;subst e;cases r;exact assignInOrder_nil ⟨σ,H,I,h⟩
theorem mB(h1:PG X e t)(h2:PGs X es u)
  (hs:(assignEach (e::es) X.env).map (·.2)=assign e X.env::(assignEach es X.env).map (·.2):=by rfl):PGs X (e::es) (gCons t u):=by
 intro pins s σ H vs us Q I r h;obtain⟨v,vr,e1,h⟩:=h;subst e1
 cases r with
 |cons r rr=>
  rw[hs];refine assignInOrder_cons (thn (h1 pins s σ H _ _ _ I r h) λ_ s1 ⟨σ1,H1,I1,q1⟩=>?_);exact h2 pins s1 σ1 H1 _ _ Q I1 rr q1
noncomputable def gTup(K:PySem.W.Frag)(n:Nat)(t:TGs):TG:=λv σ H Q=>∃a xs,v=.ref a/\SqT K H a xs/\xs.length=n/\t xs σ H Q
theorem pg_tup{es:List Expr}{k:Nat}{t:TGs}{n:Nat}(hc:X.calm=true)(h:PGs X es t)
  (hn:(assignEach es X.env).length=n:=by rfl) (hst:(assignEach es X.env).findIdx? (·.1)=none:=by rfl):PG X (.Tuple es k pos) (gTup X.K n t):=by
 intro pins s σ H v u Q I r hw;obtain⟨a,xs,e1,hq,hl,hw⟩:=hw;subst e1;cases r;obtain⟨its,rv,ht,hz⟩:=I.tuple hq;refine assign_Tuple_tuple (I.ok.hd hc) ht (by simp[hn,←hl,rv.length]) hst λh' hx=>?_;have I1:Inv X pins σ H {s with heap:=h'}:=I.kept (t':=s.toks) λb o e=>hx b o (zP (yV e)) e;exact h pins _ σ H xs _ Q I1 (by simpa using rv) hw
noncomputable def gSub(to ti:TE)(t:TSet):TG:=λv σ H Q=>to σ H λo H1=>ti σ H1 λi H2=>t o i v H2 λH3=>Q σ H3
theorem uQ(ho:PE X o to)(hi:PE X i ti)(hs:PSet X t)
  (ha:∀v,assign (.Subscript o i pos) X.env v=(do
   let ov←holding [v] (eval o X.env)
   let iv←holding [v,ov] (eval i X.env)
   standAt pos
   holding [v,ov,iv] (setItem ov iv v)
   release [v,ov,iv] []):=by intro _;rfl):PG X (.Subscript o i pos) (gSub to ti t):=by
 intro pins s σ H v u Q I r h;rw[ha];refine gV (wpAny_holding (thn (ho pins s σ H _ I h) λov s1 ⟨x,H1,I1,r1,q1⟩=>?_));refine gV (wpAny_holding (thn (hi pins s1 σ H1 _ I1 q1) λiv s2 ⟨y,H2,I2,r2,q2⟩=>?_));refine gV (wpAny_standAt (gV (wpAny_holding (thn (hs pins s2 σ H2 x y v ov iv u _ I2 r1 r2 r q2) λ_ s3 ⟨H3,I3,q3⟩=>?_))));exact wpAny_release ⟨σ,H3,I3,q3⟩
noncomputable def tAsg(te:TE)(g:TG):TS:=λD σ H=>te σ H λx H1=>g x σ H1 D.nx
theorem kO(he:PE X e te)(hg:PG X tg g)(hs:swapsWithSole [tg] e pos.line X.env=pure false:=by rfl)(hw:swappedStores [tg] e X.env=pure none:=by rfl)
  (h1:(assignEach [tg] X.env).map (·.2)=[assign tg X.env]:=by rfl):PS X (.Assign [tg] e pos) (tAsg te g):=by
 intro pins s σ H D I h;refine wpAny_Assign_stores (thn (he pins s σ H _ I h) λv s1 ⟨x,H1,I1,r1,q1⟩=>?_) hs hw;rw[h1];exact thn (hg pins s1 σ H1 x v _ I1 r1 q1) λ_ s2 q=>q
theorem oQ(hN:X.N.Nodup)(hi:X.N[i]?=some x)(hx:Loc X.env.scope x)(he:PE X e te)(hs:swapsWith e (some (.Name x pos')) pos.line X.env=pure false:=by rfl)(hf:X.fn x=true\/X.env.scope.names.lookup x=some .local:=by first|exact .inl rfl|exact .inr rfl|assumption):
  PS X (.Assign [.Name x pos'] e pos) (tAsg te (gName i)):=by
 intro pins s σ H D I h;refine wpAny_Assign_Name (thn (he pins s σ H _ I h) λv s1 ⟨y,H1,I1,r1,q1⟩=>?_) hs;exact l9 I1 hN hi hx r1 (λs2 I2=>⟨_,H1,I2,q1⟩) hf
end
section
variable{X:Cx}{pos:Pos}
noncomputable def tWhile(c:TT)(tb:TS):TS:=λD σ H=>∃W:Nat->St->Hp->Prop,(∃m,W m σ H)/\∀m σ H,W m σ H->
 c σ H λb H1=>if b=true then∃N:St->Hp->Prop,(∀σ' H',N σ' H'->∃m',m'<m/\W m' σ' H')/\tb {D with nx:=N,ct:=N,bk:=D.nx} σ H1 else D.nx σ H1
theorem mC(hp:PassesOwn (model X.prog X.w) X.A X.env X.xe)(hc:PT X c tc)(hb:PSs X body tb):PS X (.While c body [] pos) (tWhile tc tb):=by
 intro pins s σ H D I h;obtain⟨W,⟨m0,w0⟩,turn⟩:=h;refine wpAny_While (codeAny_whileLoop (λn s'=>∃σ' H',Inv X pins σ' H' s'/\W n σ' H') ?_ m0 ⟨σ,H,I,w0⟩);rintro n s1 ⟨σ1,H1,I1,w1⟩;refine wpAny_passesOwn hp (thn (hc pins s1 σ1 H1 _ I1 (turn n σ1 H1 w1)) λb s2 ⟨H2,I2,q2⟩=>?_)
 cases b with
 |true=>
  obtain⟨N,hN,q2⟩:=q2;rw[yM rfl];refine wpAny_passesOwn hp (thn (hb pins s2 σ1 H2 _ I2 q2) λf s3 q3=>?_)
  cases f with
  |next=>
   obtain⟨σ3,H3,I3,n3⟩:=q3;obtain⟨m',hm,w3⟩:=hN σ3 H3 n3;exact⟨m',hm,σ3,H3,I3,w3⟩
  |cont=>
   obtain⟨σ3,H3,I3,n3⟩:=q3;obtain⟨m',hm,w3⟩:=hN σ3 H3 n3;exact⟨m',hm,σ3,H3,I3,w3⟩
  |brk=>exact q3
  |ret v=>exact q3
 |false=>
  rw[yK yL];exact wpAny_execs_nil ⟨σ1,H2,I2,q2⟩
end
structure It where
 go:Nat->Hp->Prop
 yld:Nat->Hp->V->Hp->Prop
 stop:Nat->Hp->Prop
noncomputable def FpOk(X:Cx)(pins:List (Addr×Obj))(H:Hp)(b:Addr):Prop:=
 H b=none/\b≠X.env.locals/\b∉X.fs/\(b∈X.ex\/X.s₀.heap.objs.size<=b)/\(∀x c,X.env.cells.lookup x=some c->c≠b)/\∀p∈X.pn++pins,p.1≠b
theorem Inv.fpOk(I:Inv X pins σ H s)(hb:s.heap.objs.size<=b)(hn:H' b=none):FpOk X pins H' b:=by
 refine⟨hn,aAR (zH I.lt hb),I.nofs hb,.inr (zB I.sz hb),λx c e z=>?_,λp hp z=>?_⟩
 ·obtain⟨v,q⟩:=I.cell x c e
  exact absurd (zH q.lt (by rw[z];exact hb)) (aAD _)
 ·exact absurd (zH (yV (I.pin p hp).1) (by rw[z];exact hb)) (aAD _)
structure Turn(P:Program)(w:World)(K:PySem.W.Frag)(tg:Expr)(J:It)(fp:List Addr)(it:Addr)(tn:Nat->Heap->Prop):Prop where
 mem:it∈fp
 obj:∀i h,tn i h->∀b∈fp,∃o,h.get? b=some o/\∀v,o.data≠.cell v
 keep:∀i h h',tn i h->(∀b∈fp,∀o,h.get? b=some o->h'.get? b=some o)->tn i h'
 item:∀(X:Cx),X.prog=P->X.w=w->X.K=K->X.calm=true->∀(i:Nat)(pins:List (Addr×Obj))(s:Shared)(σ:St)(H:Hp)(E:Value->Shared->Prop),Inv X pins σ H s->(∀b∈fp,FpOk X pins H b)->tn i s.heap->J.go i H->
  wpAny (model P w) X.A (pyNext (.ref it)) (λr s1=>∃u,r=some u/\
   wpAny (model P w) X.A (letOwnedTupleGo tg (.ref it) u) (λ_ s2=>∃x H',Inv X pins σ H' s2/\RelV x u/\J.yld i H x H'/\tn (i+1) s2.heap/\∀b∈fp,H' b=none) E s1) E s
 done:∀(X:Cx),X.prog=P->X.w=w->X.K=K->X.calm=true->∀(i:Nat)(pins:List (Addr×Obj))(s:Shared)(σ:St)(H:Hp)(E:Value->Shared->Prop),Inv X pins σ H s->(∀b∈fp,FpOk X pins H b)->tn i s.heap->J.stop i H->
  wpAny (model P w) X.A (pyNext (.ref it)) (λr s1=>r=none/\Inv X pins σ H s1) E s
 self:∀(A:Around)(i:Nat)(s:Shared)(Q:Value->Shared->Prop)(E:Value->Shared->Prop),tn i s.heap->Q (.ref it) s->wpAny (model P w) A (pyIter (.ref it)) Q E s
noncomputable abbrev TI:=St->Hp->(It->Hp->Prop)->Prop
noncomputable def PIE(X:Cx)(pins:List (Addr×Obj))(σ:St)(tg:Expr)(R:It->Hp->Prop)(itv:Value)(s2:Shared):Prop:=
 ∃(it:Addr)(fp:List Addr)(tn:Nat->Heap->Prop)(J:It)(H':Hp),itv=.ref it/\Inv X pins σ H' s2/\Turn X.prog X.w X.K tg J fp it tn/\tn 0 s2.heap/\(∀b∈fp,FpOk X pins H' b)/\R J H'
noncomputable def PI(X:Cx)(tg iter:Expr)(wi:TI):Prop:=
 ∀(pins:List (Addr×Obj))(s:Shared)(σ:St)(H:Hp)(R:It->Hp->Prop),Inv X pins σ H s->wi σ H R->
  wpAny (model X.prog X.w) X.A (eval iter X.env) (λv s1=>wpAny (model X.prog X.w) X.A (pyIter v) (PIE X pins σ tg R) X.xe s1) X.xe s
theorem qI(ho:s.heap.get? it=some o)(hc:o.cls=.type n)(hd:o.data=.fields vs)
   (hn:["enumerate","zip","dict_itemiterator","dict_reverseitemiterator","odict_iterator","itertools.zip_longest","itertools.pairwise"].contains n=false) (hQ:Q () s):wpAny M A (letOwnedTupleGo tg (.ref it) u) Q E s:=by
 unfold letOwnedTupleGo;cases tg<;>first
   |exact yN hQ
   |(cases u<;>first
       |exact yN hQ
       | (refine gV (wpAny_load ho ?_)
          rw[hc,hd];show wpAny M A (if(["enumerate","zip","dict_itemiterator","dict_reverseitemiterator","odict_iterator","itertools.zip_longest","itertools.pairwise"].contains n&&vs[0]?==some (rawInt _))=true then _ else _) Q E s;rw[yK (by intro h;rw[hn,Bool.false_and] at h;cases h)];exact yN hQ))
noncomputable def Itl(K:PySem.W.Frag)(a:Addr):It:=
 ⟨λi H=>∃xs x,SqL K H a xs/\xs[i]?=some x,λi H x H'=>H'=H/\∀xs,SqL K H a xs->xs[i]?=some x,λi H=>∃xs,SqL K H a xs/\xs.length<=i⟩
noncomputable def Itt(K:PySem.W.Frag)(a:Addr):It:=
 ⟨λi H=>∃xs x,SqT K H a xs/\xs[i]?=some x,λi H x H'=>H'=H/\∀xs,SqT K H a xs->xs[i]?=some x,λi H=>∃xs,SqT K H a xs/\xs.length<=i⟩
noncomputable def Itr(lo:Int)(n:Nat):It:=⟨λi _=>i<n,λi H x H'=>H'=H/\x=.int (lo+i),λi _=>n<=i⟩
theorem sL{P:Program}{w:World}{K:PySem.W.Frag}{tg:Expr}(a it:Addr):Turn P w K tg (Itl K a) [it] it (λi h=>h.IsListIter it a i) where
 mem:=by simp
 obj:=λi h st b hb=>by
  have e:b=it:=by simpa using hb
  subst e;obtain⟨o,e,c,d⟩:=st;exact⟨o,e,λv z=>by rw[d] at z;cases z⟩
 keep:=λi h h' st k=>st.at λo e=>k it (by simp) o e
 item:=by
  intro X hP hw hK hc i pins s σ H E I hf st hg;subst hP hw hK;obtain⟨xs,x,hq,hx⟩:=hg;obtain⟨its,rv,p,hz⟩:=I.list hq;obtain⟨u,hu,ru⟩:=rv.get hx;obtain⟨f0,f1,f2,f3,f4,f5⟩:=hf it (by simp);refine wpAny_pyNext_list_item st p.isList (x:=u) (by simpa using hu) λh' st' sb=>?_;have I1:Inv X pins σ H {s with heap:=h'}:=I.turned (t':=s.toks) (λb o hb e=>(sb.2 b hb).trans e) f0 f1 f3 f4 f5;obtain⟨o,e,c,d⟩:=id st';exact⟨u,rfl,qI (s:={s with heap:=h'}) e c d (by decide) ⟨x,H,I1,ru,⟨rfl,λys hy=>by rw[I.list_inj hy hq];exact hx⟩,st',λb hb=>(hf b hb).1⟩⟩
 done:=by
  intro X hP hw hK hc i pins s σ H E I hf st hg;subst hP hw hK;obtain⟨xs,hq,hx⟩:=hg;obtain⟨its,rv,p,hz⟩:=I.list hq;obtain⟨f0,f1,f2,f3,f4,f5⟩:=hf it (by simp);have hl:=rv.length;exact wpAny_pyNext_list_end (I.ok.hd hc) st p.isList (by simp;omega) λh' eb=>⟨rfl,I.turned (t':=s.toks) (λb o hb e=>eb b o hb e) f0 f1 f3 f4 f5⟩
 self:=λ_ _ _ _ _ st h=>wpAny_pyIter_listiter st h
theorem oR{P:Program}{w:World}{K:PySem.W.Frag}{tg:Expr}(a it:Addr):Turn P w K tg (Itt K a) [it] it (λi h=>h.IsTupleIter it a i) where
 mem:=by simp
 obj:=λi h st b hb=>by
  have e:b=it:=by simpa using hb
  subst e;obtain⟨o,e,c,d⟩:=st;exact⟨o,e,λv z=>by rw[d] at z;cases z⟩
 keep:=λi h h' st k=>st.at λo e=>k it (by simp) o e
 item:=by
  intro X hP hw hK hc i pins s σ H E I hf st hg;subst hP hw hK;obtain⟨xs,x,hq,hx⟩:=hg;obtain⟨its,rv,p,hz⟩:=I.tuple hq;obtain⟨u,hu,ru⟩:=rv.get hx;obtain⟨f0,f1,f2,f3,f4,f5⟩:=hf it (by simp);refine wpAny_pyNext_tuple_item st (show s.heap.IsTuple a its.toArray from p) (x:=u) (by simpa using hu) λh' st' sb=>?_;have I1:Inv X pins σ H {s with heap:=h'}:=I.turned (t':=s.toks) (λb o hb e=>(sb.2 b hb).trans e) f0 f1 f3 f4 f5;obtain⟨o,e,c,d⟩:=id st';exact⟨u,rfl,qI (s:={s with heap:=h'}) e c d (by decide) ⟨x,H,I1,ru,⟨rfl,λys hy=>by rw[I.tuple_inj hy hq];exact hx⟩,st',λb hb=>(hf b hb).1⟩⟩
 done:=by
  intro X hP hw hK hc i pins s σ H E I hf st hg;subst hP hw hK;obtain⟨xs,hq,hx⟩:=hg;obtain⟨its,rv,p,hz⟩:=I.tuple hq;obtain⟨f0,f1,f2,f3,f4,f5⟩:=hf it (by simp);have hl:=rv.length;exact wpAny_pyNext_tuple_end (I.ok.hd hc) st (show s.heap.IsTuple a its.toArray from p) (by simp;omega) λh' eb=>⟨rfl,I.turned (t':=s.toks) (λb o hb e=>eb b o hb e) f0 f1 f3 f4 f5⟩
 self:=λ_ _ _ _ _ st h=>wpAny_pyIter_tupleiter st h
theorem oS{P:Program}{w:World}{K:PySem.W.Frag}{tg:Expr}(it:Addr)(lo:Int)(n:Nat):Turn P w K tg (Itr lo n) [it] it (λi h=>IsRangeIter h it (lo+(i:Nat)*1) ((n:Int)-(i:Nat)) 1) where
 mem:=by simp
 obj:=λi h st b hb=>by
  have e:b=it:=by simpa using hb
  subst e;exact⟨_,st,λv z=>by
   have z':Data.fields _=Data.cell v:=z;cases z'⟩
 keep:=λi h h' st k=>k it (by simp) _ st
 item:=by
  intro X hP hw hK hc i pins s σ H E I hf st hg;subst hP hw hK;obtain⟨f0,f1,f2,f3,f4,f5⟩:=hf it (by simp);have W:=Walks.range (prog:=X.prog) (w:=X.w) (I.ok.hd hc) it lo 1 n;refine W.item i s _ _ hg st λv h' tk hv st' kk=>?_;obtain⟨t,rfl⟩:=hv;have I1:Inv X pins σ H {s with heap:=h',toks:=tk}:=I.turned (λb o hb e=>kk b o (by simpa using hb) e) f0 f1 f3 f4 f5;refine⟨_,rfl,qI (s:={s with heap:=h',toks:=tk}) (n:="range_iterator") st' rfl rfl (by decide) ⟨.int (lo+i),H,I1,⟨t,?_⟩,⟨rfl,rfl⟩,st',λb hb=>(hf b hb).1⟩⟩;rw[Int.mul_one]
 done:=by
  intro X hP hw hK hc i pins s σ H E I hf st hg;subst hP hw hK;obtain⟨f0,f1,f2,f3,f4,f5⟩:=hf it (by simp);exact wpAny_pyNext_range_end (I.ok.hd hc) st (by have:n<=i:=hg;omega) λh' eb=>⟨rfl,I.turned (t':=s.toks) (λb o hb e=>eb b o hb e) f0 f1 f3 f4 f5⟩
 self:=λ_ _ _ _ _ st h=>wpAny_pyIter_rangeiter st h
section
variable{X:Cx}{tg:Expr}
noncomputable def iList(K:PySem.W.Frag)(tl:TE):TI:=λσ H R=>tl σ H λx H1=>∃a,x=.ref a/\(∃xs,SqL K H1 a xs)/\R (Itl K a) H1
noncomputable def iTup(K:PySem.W.Frag)(tl:TE):TI:=λσ H R=>tl σ H λx H1=>∃a,x=.ref a/\(∃xs,SqT K H1 a xs)/\R (Itt K a) H1
theorem qJ(hl:PE X l tl):PI X tg l (iList X.K tl):=by
 intro pins s σ H R I h;refine thn (hl pins s σ H _ I h) λv s1 ⟨x,H1,I1,r1,q1⟩=>?_;obtain⟨a,e,⟨xs,hq⟩,q⟩:=q1;subst e;cases r1;obtain⟨its,rv,p,hz⟩:=I1.list hq;refine wpAny_pyIter_list p.isList ?_;refine⟨s1.heap.objs.size,[s1.heap.objs.size],_,_,H1,rfl,I1.kept (t':=s1.toks) λb o e=>yO _ e,sL a _,⟨_,y9 _ rfl,rfl,rfl⟩,λb hb=>?_,q⟩;have e:b=s1.heap.objs.size:=by simpa using hb
 subst e;exact I1.fpOk (yP _) (I1.hok.fresh (yP _))
theorem kP(hl:PE X l tl):PI X tg l (iTup X.K tl):=by
 intro pins s σ H R I h;refine thn (hl pins s σ H _ I h) λv s1 ⟨x,H1,I1,r1,q1⟩=>?_;obtain⟨a,e,⟨xs,hq⟩,q⟩:=q1;subst e;cases r1;obtain⟨its,rv,p,hz⟩:=I1.tuple hq;refine wpAny_pyIter_tuple (show s1.heap.IsTuple a its.toArray from p) ?_;refine⟨s1.heap.objs.size,[s1.heap.objs.size],_,_,H1,rfl,I1.kept (t':=s1.toks) λb o e=>yO _ e,oR a _,⟨_,y9 _ rfl,rfl,rfl⟩,λb hb=>?_,q⟩;have e:b=s1.heap.objs.size:=by simpa using hb
 subst e;exact I1.fpOk (yP _) (I1.hok.fresh (yP _))
theorem uR{pins:List (Addr×Obj)}{σ:St}{H:Hp}{s:Shared}{R:It->Hp->Prop}{E:Value->Shared->Prop}{lo hi:Int}{t u v:Tok}{tk:Nat}(I:Inv X pins σ H s)(h1: -(2^62)<=lo)(h2:lo<2^62)(h3: -(2^62)<=hi)(h4:hi<2^62)
  (q:R (Itr lo (hi-lo).toNat) H):wpAny (model X.prog X.w) X.A (pyIter (.ref s.heap.objs.size)) (PIE X pins σ tg R) E {s with heap:=s.heap.push {cls:=.type "range",data:=.fields #[.int lo t,.int hi u,.int 1 v]},toks:=tk}:=by
 refine wpAny_pyIter_range (IsRange.new ..) (small_one h1 h2 h3 h4) ?_;have I1:Inv X pins σ H {s with heap:=s.heap.push {cls:=.type "range",data:=.fields #[.int lo t,.int hi u,.int 1 v]},toks:=tk}:=I.kept λb o e=>yO _ e;refine⟨(s.heap.push {cls:=.type "range",data:=.fields #[.int lo t,.int hi u,.int 1 v]}).objs.size,[(s.heap.push {cls:=.type "range",data:=.fields #[.int lo t,.int hi u,.int 1 v]}).objs.size],_,_,H,rfl,
  I1.kept (t':=tk) λb o e=>yO _ e,oS _ lo (hi-lo).toNat,?_,λb hb=>?_,q⟩
 ·have e1:lo+((0:Nat):Int)*1=lo:=by simp
  have e2:(((hi-lo).toNat:Nat):Int)-((0:Nat):Int)=Builtin.Range.rangeSize lo hi 1:=by rw[rangeSize_one];split<;>omega
  show IsRangeIter _ _ (lo+((0:Nat):Int)*1) ((((hi-lo).toNat:Nat):Int)-((0:Nat):Int)) 1;rw[e1,e2];exact y9 _ rfl
 ·have e:b=(s.heap.push {cls:=.type "range",data:=.fields #[.int lo t,.int hi u,.int 1 v]}).objs.size:=by simpa using hb
  subst e;exact I1.fpOk (yP _) (I1.hok.fresh (yP _))
noncomputable def iRng1(ta:TA):TI:=λσ H R=>ta σ H λvs H1=>∃j:Int,vs=[.int j]/\-(2^62)<=j/\j<2^62/\R (Itr 0 j.toNat) H1
theorem jF{a:Expr}{ta:TA}{p pos:Pos}(hg:Gl X "range")(hm:X.mg "range"=none)(ha:PA X [a] ta)(hs:starEach [a] X.env=[(false,eval a X.env)]:=by rfl):PI X tg (.Call (.Name "range" p) [a] [] pos) (iRng1 ta):=by
 intro pins s σ H R I h;refine Call_ (eG I hg hm boot_range (PyProof.Rows.callWith_type1 (thn (ha pos pins s σ H _ I h) λus s1 ⟨vs,H1,I1,r1,q1⟩=>?_) hs rfl));obtain⟨j,e,q1,q2,q⟩:=q1;subst e
 cases r1 with
 |cons r rr=>
  cases rr;obtain⟨t,rfl⟩:=r;exact call_range_1 (uR I1 (by omega) (by omega) q1 q2 (by simpa using q))
noncomputable def tFor(wi:TI)(g:TG)(tb:TS):TS:=λD σ H=>wi σ H λJ H1=>∃W:Nat->Nat->St->Hp->Prop,(∃m,W 0 m σ H1)/\∀i m σ H,W i m σ H->
 (J.stop i H/\D.nx σ H)\/(J.go i H/\∃N:St->Hp->Prop,(∀σ' H',N σ' H'->∃m',m'<m/\W (i+1) m' σ' H')/\∀x H',J.yld i H x H'->g x σ H' λσ2 H2=>tb {D with nx:=N,ct:=N,bk:=D.nx} σ2 H2)
noncomputable def pinsAt(fp:List Addr)(h:Heap):List (Addr×Obj):=fp.filterMap λb=>(h.get? b).map λo=>(b,o)
theorem bM(hb:b∈fp)(e:h.get? b=some o):(b,o)∈pinsAt fp h:=List.mem_filterMap.mpr ⟨b,hb,by rw[e];rfl⟩
theorem sN(hp:p∈pinsAt fp h):p.1∈fp/\h.get? p.1=some p.2:=by
 obtain⟨b,hb,e⟩:=List.mem_filterMap.mp hp
 cases q:h.get? b with
 |none=>rw[q] at e;cases e
 |some o=>
  rw[q] at e;have e':(b,o)=p:=y8 e;subst e';exact⟨hb,q⟩
theorem Inv.pinned(I:Inv X pins σ H s)(hf:∀b∈fp,FpOk X pins H b)(ho:∀b∈fp,∃o,s.heap.get? b=some o/\∀v,o.data≠.cell v):Inv X (pins++pinsAt fp s.heap) σ H s:=
 I.pins_of λp hp=>(List.mem_append.mp hp).elim (λz=>I.pin p (zK _ z)) λz=>by
  obtain⟨hb,e⟩:=sN z;obtain⟨f0,f1,f2,_⟩:=hf p.1 hb;obtain⟨o,e',d⟩:=ho p.1 hb;rw[e] at e';cases e';exact⟨e,f0,f1,f2,d⟩
theorem Inv.unpinned(I:Inv X (pins++pl) σ H s):Inv X pins σ H s:=I.pins_of λp hp=>I.pin p (zK _ (List.mem_append_left _ hp))
theorem uS{iter:Expr}{body:List Stmt}{wi:TI}{g:TG}{tb:TS}{pos:Pos}(hp:PassesOwn (model X.prog X.w) X.A X.env X.xe)(hc:X.calm=true)(hi:PI X tg iter wi)(hg:PG X tg g)(hb:PSs X body tb)
  (hs:∀x,foldedSetIterable iter X.env x=pure x:=by intro _;rfl):PS X (.For tg iter body [] pos) (tFor wi g tb):=by
 intro pins s σ H D I h;refine wpAny_For (thn (hi pins s σ H _ I h) λv s1 h1=>thn h1 λitv s2 h2=>?_) hs;obtain⟨it,fp,tn,J,H2,e,I2,T,st2,f2,W,⟨m0,w0⟩,turn⟩:=h2;subst e
 --what stays true of the iterator's objects through the loop
 have stat:∀{H':Hp},(∀b∈fp,H' b=none)->∀b∈fp,FpOk X pins H' b:=λhn b hb=>⟨hn b hb,(f2 b hb).2⟩
 refine codeAny_forLoop_any (λn s'=>∃i σ' H',Inv X pins σ' H' s'/\tn i s'.heap/\(∀b∈fp,H' b=none)/\W i n σ' H') ?_ m0 ⟨0,σ,H2,I2,st2,λb hb=>(f2 b hb).1,w0⟩;rintro n s3 ⟨i,σ3,H3,I3,st3,fr3,w3⟩;rcases turn i n σ3 H3 w3 with⟨stop,qn⟩|⟨go,N,hN,step⟩
 ·refine wpAny_passesOwn hp (thn (T.done X rfl rfl rfl hc i pins s3 σ3 H3 X.xe I3 (stat fr3) st3 stop) λr s4 ⟨hr,I4⟩=>?_)
  subst hr;exact wpAny_execs_nil ⟨σ3,H3,I4,qn⟩
 ·refine wpAny_passesOwn hp (thn (T.item X rfl rfl rfl hc i pins s3 σ3 H3 X.xe I3 (stat fr3) st3 go) λr s4 ⟨u,hr,h4⟩=>?_)
  subst hr;refine wpAny_passesOwn hp (thn h4 λ_ s5 ⟨x,H5,I5,r5,y5,st5,fr5⟩=>?_);have I5':=I5.pinned (stat fr5) (T.obj _ _ st5);refine wpAny_passesOwn hp (thn (hg _ s5 σ3 H5 x u _ I5' r5 (step x H5 y5)) λ_ s6 ⟨σ6,H6,I6,q6⟩=>?_);refine wpAny_passesOwn hp (thn (hb _ s6 σ6 H6 _ I6 q6) λf s7 q7=>?_);have again:∀{σ7:St}{H7:Hp},Inv X (pins++pinsAt fp s5.heap) σ7 H7 s7->N σ7 H7->∃m,m<n/\∃i σ' H',Inv X pins σ' H' s7/\tn i s7.heap/\(∀b∈fp,H' b=none)/\W i m σ' H':=λ{σ7 H7} I7 n7=>by
   obtain⟨m',hm,w7⟩:=hN σ7 H7 n7;refine⟨m',hm,i+1,σ7,H7,I7.unpinned,T.keep _ _ _ st5 λb hb o e=>(I7.pin (b,o) (zK _ (zK _ (bM hb e)))).1,λb hb=>?_,w7⟩;obtain⟨o,e,d⟩:=T.obj _ _ st5 b hb;exact(I7.pin (b,o) (zK _ (zK _ (bM hb e)))).2.1
  cases f with
  |next=>obtain⟨σ7,H7,I7,n7⟩:=q7;exact again I7 n7
  |cont=>obtain⟨σ7,H7,I7,n7⟩:=q7;exact again I7 n7
  |brk=>obtain⟨σ7,H7,I7,q7⟩:=q7;exact⟨σ7,H7,I7.unpinned,q7⟩
  |ret v=>obtain⟨x7,σ7,H7,I7,r7,q7⟩:=q7;exact⟨x7,σ7,H7,I7.unpinned,r7,q7⟩
end
noncomputable abbrev R2:=V->V->Hp->VK->Prop
noncomputable def OpR(X:Cx)(f:Value->Value->Sem Value)(r:R2):Prop:=
 ∀(pins:List (Addr×Obj))(s:Shared)(σ:St)(H:Hp)(x y:V)(v u:Value)(Q:VK),Inv X pins σ H s->RelV x v->RelV y u->r x y H Q->
  wpAny (model X.prog X.w) X.A (f v u) (EP X pins σ Q) X.xe s
noncomputable def UnR(X:Cx)(f:Value->Sem Value)(r:V->Hp->VK->Prop):Prop:=
 ∀(pins:List (Addr×Obj))(s:Shared)(σ:St)(H:Hp)(x:V)(v:Value)(Q:VK),Inv X pins σ H s->RelV x v->r x H Q->
  wpAny (model X.prog X.w) X.A (f v) (EP X pins σ Q) X.xe s
noncomputable def CallR(X:Cx)(f:Value)(r:List V->Hp->VK->Prop):Prop:=
 ∀(pins:List (Addr×Obj))(s:Shared)(σ:St)(H:Hp)(xs:List V)(us:List Value)(Q:VK),Inv X pins σ H s->Vals xs us->r xs H Q->
  wpAny (model X.prog X.w) X.A (call f us) (EP X pins σ Q) X.xe s
noncomputable def TruR(X:Cx)(r:V->Hp->(Bool->Hp->Prop)->Prop):Prop:=
 ∀(pins:List (Addr×Obj))(s:Shared)(σ:St)(H:Hp)(x:V)(v:Value)(Q:Bool->Hp->Prop),Inv X pins σ H s->RelV x v->r x H Q->
  wpAny (model X.prog X.w) X.A (truthy v) (TP X pins σ Q) X.xe s
noncomputable def tOp(r:R2)(ta tb:TE):TE:=λσ H Q=>ta σ H λx H1=>tb σ H1 λy H2=>r x y H2 Q
noncomputable def tUn(r:V->Hp->VK->Prop)(ta:TE):TE:=λσ H Q=>ta σ H λx H1=>r x H1 Q
noncomputable def rI(C:Int->Int->Prop)(g:Int->Int->V):R2:=λx y H Q=>∃i j,x=.int i/\y=.int j/\C i j/\Q (g i j) H
noncomputable def rI0(g:Int->Int->V):R2:=λx y H Q=>∃i j,x=.int i/\y=.int j/\Q (g i j) H
noncomputable def rU(g:Int->V):V->Hp->VK->Prop:=λx H Q=>∃i,x=.int i/\Q (g i) H
section
variable{X:Cx}{a b c:Expr}{ta tb tc:TE}{pos:Pos}
theorem binT(ha:PE X a ta)(hb:PE X b tb){R:V->V->Hp->Prop}(I:Inv X pins σ H s)
  (h:ta σ H λx H1=>tb σ H1 λy H2=>R x y H2) {f:Value->Value->Sem Value}
  (hf:∀v u s2 x y H2,Inv X pins σ H2 s2->RelV x v->RelV y u->R x y H2->wpAny (model X.prog X.w) X.A (f v u) Q X.xe s2):
  wpAny (model X.prog X.w) X.A (eval a X.env) (λv s₁=>wpAny (model X.prog X.w) X.A (eval b X.env) (λu s₂=>wpAny (model X.prog X.w) X.A (f v u) Q X.xe s₂) X.xe s₁) X.xe s:=by
 refine thn (ha pins s σ H _ I h) λv s1 ⟨x,H1,I1,r1,q1⟩=>?_;refine thn (hb pins s1 σ H1 _ I1 q1) λu s2 ⟨y,H2,I2,r2,q2⟩=>?_;exact hf v u s2 x y H2 I2 r1 r2 q2
theorem bV(ho:OpR X (binaryOp op) r)(ha:PE X a ta)(hb:PE X b tb):PE X (.BinOp a op b pos) (tOp r ta tb):=by
 intro pins s σ H Q I h;exact wpAny_BinOp (binT ha hb I h λv u s2 x y H2 I2 rx ry q=>ho pins s2 σ H2 x y v u Q I2 rx ry q)
theorem qK(ho:UnR X (unaryOp op) r)(ha:PE X a ta):PE X (.UnaryOp op a pos) (tUn r ta):=by
 intro pins s σ H Q I h;exact UnaryOp_ (thn (ha pins s σ H _ I h) λv s1 ⟨x,H1,I1,r1,q1⟩=>ho pins s1 σ H1 x v Q I1 r1 q1)
theorem opI{f:Value->Value->Sem Value}{C:Int->Int->Prop}{g:Int->Int->Int}
  (rule:∀(i j:Int)(t u:Tok)(s:Shared)(Q:Value->Shared->Prop)(E:Value->Shared->Prop),C i j->Q (.int (g i j) s.toks) {s with toks:=s.toks+1}->wpAny (model X.prog X.w) X.A (f (.int i t) (.int j u)) Q E s):
  OpR X f (rI C λi j=>.int (g i j)):=by
 intro pins s σ H x y v u Q I rx ry h;obtain⟨i,j,rfl,rfl,hc,q⟩:=h;obtain⟨t,rfl⟩:=rx;obtain⟨t',rfl⟩:=ry;exact rule i j t t' s _ _ hc ⟨.int (g i j),H,I.tok _,⟨_,rfl⟩,q⟩
theorem opI0{f:Value->Value->Sem Value}{g:Int->Int->Int}
  (rule:∀(i j:Int)(t u:Tok)(s:Shared)(Q:Value->Shared->Prop)(E:Value->Shared->Prop),Q (.int (g i j) s.toks) {s with toks:=s.toks+1}->wpAny (model X.prog X.w) X.A (f (.int i t) (.int j u)) Q E s):
  OpR X f (rI0 λi j=>.int (g i j)):=by
 intro pins s σ H x y v u Q I rx ry h;obtain⟨i,j,rfl,rfl,q⟩:=h;obtain⟨t,rfl⟩:=rx;obtain⟨t',rfl⟩:=ry;exact rule i j t t' s _ _ ⟨.int (g i j),H,I.tok _,⟨_,rfl⟩,q⟩
theorem opB0{g:Int->Int->Bool}
  (rule:∀(i j:Int)(t u:Tok)(s:Shared)(Q:Value->Shared->Prop)(E:Value->Shared->Prop),Q (.bool (g i j)) s->wpAny (model X.prog X.w) X.A (f (.int i t) (.int j u)) Q E s):
  OpR X f (rI0 λi j=>.bl (g i j)):=by
 intro pins s σ H x y v u Q I rx ry h;obtain⟨i,j,rfl,rfl,q⟩:=h;obtain⟨t,rfl⟩:=rx;obtain⟨t',rfl⟩:=ry;exact rule i j t t' s _ _ ⟨.bl (g i j),H,I,rfl,q⟩
noncomputable def CDiv(i j:Int):Prop:=0<j/\j<1073741824
noncomputable def CMul(i j:Int):Prop:=(-(2^64)<i/\i<2^64)\/(-(2^64)<j/\j<2^64)
theorem CMul.ok(h:CMul i j):IntMulOk i j:=by
 rcases h with⟨h1,h2⟩|⟨h1,h2⟩
 ·exact .of_left (intBits_le_64 h1 h2)
 ·exact .of_right (intBits_le_64 h1 h2)
theorem op_add:OpR X (binaryOp .Add) (rI0 λi j=>.int (i+j)):=opI0 λ_ _ _ _ _ _ _ q=>add_int q
theorem oU:OpR X (binaryOp .Sub) (rI0 λi j=>.int (i-j)):=opI0 λ_ _ _ _ _ _ _ q=>sub_int q
theorem gN:OpR X (binaryOp .Mult) (rI CMul λi j=>.int (i*j)):=opI λ_ _ _ _ _ _ _ hc q=>mul_int q hc.ok
theorem op_fdiv:OpR X (binaryOp .FloorDiv) (rI CDiv λi j=>.int (i/j)):=opI λi j _ _ _ _ _ hc q=>by
 have h1:(0:Int)<j:=hc.1;have h2:j<1073741824:=hc.2;exact floordiv_int (by omega) (by rw[Int.fdiv_eq_ediv_of_nonneg i (by omega)];exact q) (.inl (PyProof.noPylong_small (by omega)))
theorem uT:OpR X (binaryOp .Mod) (rI (λ_ j=>0<j) λi j=>.int (i%j)):=opI λi j _ _ _ _ _ hc q=>by
 have h1:(0:Int)<j:=hc;exact mod_int' (by omega) (by rw[Int.fmod_eq_emod_of_nonneg i (by omega)];exact q)
theorem unI{f:Value->Sem Value}{g:Int->Int}
  (rule:∀(i:Int)(t:Tok)(s:Shared)(Q:Value->Shared->Prop)(E:Value->Shared->Prop),Q (.int (g i) s.toks) {s with toks:=s.toks+1}->wpAny (model X.prog X.w) X.A (f (.int i t)) Q E s):
  UnR X f (rU λi=>.int (g i)):=by
 intro pins s σ H x v Q I rx h;obtain⟨i,rfl,q⟩:=h;obtain⟨t,rfl⟩:=rx;exact rule i t s _ _ ⟨.int (g i),H,I.tok _,⟨_,rfl⟩,q⟩
theorem kQ:UnR X (unaryOp .USub) (rU λi=>.int (-i)):=unI λ_ _ _ _ _ q=>neg_int q
end
noncomputable def scal:V->V->Bool
 |.non,.non=>true|.non,.int _=>true|.int _,.non=>true|.non,.bl _=>true|.bl _,.non=>true|.non,.str _=>true|.str _,.non=>true
 |.int _,.int _=>true|.bl _,.bl _=>true|.str _,.str _=>true|.byt _,.byt _=>true
 |.int _,.str _=>true|.str _,.int _=>true|.bl _,.str _=>true|.str _,.bl _=>true
 |_,_=>false
noncomputable def rEq:R2:=λx y H Q=>scal x y=true/\Q (.bl (decide (x=y))) H
noncomputable def rNe:R2:=λx y H Q=>scal x y=true/\Q (.bl (!decide (x=y))) H
theorem f7:decide (V.int i=V.int j)=(i==j):=by
 rw[Bool.eq_iff_iff];simp
theorem kR:decide (V.bl i=V.bl j)=(i==j):=by
 rw[Bool.eq_iff_iff];simp
theorem f8:decide (V.str i=V.str j)=(i==j):=by
 rw[Bool.eq_iff_iff];simp
theorem qL:decide (V.byt i=V.byt j)=(i.toList==j.toList):=by
 rw[Bool.eq_iff_iff];cases i;cases j;simp
section
variable{X:Cx}{a b c:Expr}{ta tb tc:TE}{pos:Pos}
theorem aH(I:Inv X pins σ H s)(q:Q (.bl k) H)(e:k=k'):EP X pins σ Q (.bool k') s:=by
 subst e;exact⟨.bl k,H,I,rfl,q⟩
theorem uU:OpR X (compareOp .Eq) rEq:=by
 intro pins s σ H x y v u Q I rx ry h;obtain⟨hs,q⟩:=h
 cases x with
 |non=>
  cases rx
  cases y with
  |non=>cases ry;exact PySem.EqNone.eq_none_none (aH I q (by simp))
  |bl j=>cases ry;exact PySem.EqNone.eq_none_bool (aH I q (by simp))
  |int j=>obtain⟨t',rfl⟩:=ry;exact PySem.EqNone.eq_none_int (aH I q (by simp))
  |str j=>obtain⟨t',rfl⟩:=ry;exact PySem.EqNone.eq_none_str (aH I q (by simp))
  |_=>exact absurd (show false=true from hs) yL
 |bl i=>
  cases rx
  cases y with
  |non=>cases ry;exact PySem.EqNone.eq_bool_none (aH I q (by simp))
  |bl j=>cases ry;exact eq_bool (aH I q kR)
  |str j=>obtain⟨t',rfl⟩:=ry;exact PySem.EqMixed.eq_bool_str (aH I q (by simp))
  |_=>exact absurd (show false=true from hs) yL
 |int i=>
  obtain⟨t,rfl⟩:=rx
  cases y with
  |non=>cases ry;exact PySem.EqNone.eq_int_none (aH I q (by simp))
  |int j=>obtain⟨t',rfl⟩:=ry;exact eq_int (aH I q f7)
  |str j=>obtain⟨t',rfl⟩:=ry;exact PySem.EqMixed.eq_int_str (aH I q (by simp))
  |_=>exact absurd (show false=true from hs) yL
 |str i=>
  obtain⟨t,rfl⟩:=rx
  cases y with
  |non=>cases ry;exact PySem.EqNone.eq_str_none (aH I q (by simp))
  |bl j=>cases ry;exact PySem.EqMixed.eq_str_bool (aH I q (by simp))
  |int j=>obtain⟨t',rfl⟩:=ry;exact PySem.EqMixed.eq_str_int (aH I q (by simp))
  |str j=>obtain⟨t',rfl⟩:=ry;exact eq_str (aH I q f8)
  |_=>exact absurd (show false=true from hs) yL
 |byt i=>
  obtain⟨t,rfl⟩:=rx
  cases y with
  |byt j=>obtain⟨t',rfl⟩:=ry;exact PySem.W.eq_bytes (aH I q qL)
  |_=>exact absurd (show false=true from hs) yL
 |_=>cases y<;>exact absurd (show false=true from hs) yL
theorem uV:OpR X (compareOp .NotEq) rNe:=by
 intro pins s σ H x y v u Q I rx ry h;obtain⟨hs,q⟩:=h
 cases x with
 |non=>
  cases rx
  cases y with
  |non=>cases ry;exact PySem.EqNone.ne_none_none (aH I q (by simp))
  |bl j=>cases ry;exact PySem.EqNone.ne_none_bool (aH I q (by simp))
  |int j=>obtain⟨t',rfl⟩:=ry;exact PySem.EqNone.ne_none_int (aH I q (by simp))
  |str j=>obtain⟨t',rfl⟩:=ry;exact PySem.EqNone.ne_none_str (aH I q (by simp))
  |_=>exact absurd (show false=true from hs) yL
 |bl i=>
  cases rx
  cases y with
  |non=>cases ry;exact PySem.EqNone.ne_bool_none (aH I q (by simp))
  |bl j=>cases ry;exact ne_bool (aH I q (congrArg not kR))
  |str j=>obtain⟨t',rfl⟩:=ry;exact PySem.EqMixed.ne_bool_str (aH I q (by simp))
  |_=>exact absurd (show false=true from hs) yL
 |int i=>
  obtain⟨t,rfl⟩:=rx
  cases y with
  |non=>cases ry;exact PySem.EqNone.ne_int_none (aH I q (by simp))
  |int j=>obtain⟨t',rfl⟩:=ry;exact ne_int (aH I q (congrArg not f7))
  |str j=>obtain⟨t',rfl⟩:=ry;exact PySem.EqMixed.ne_int_str (aH I q (by simp))
  |_=>exact absurd (show false=true from hs) yL
 |str i=>
  obtain⟨t,rfl⟩:=rx
  cases y with
  |non=>cases ry;exact PySem.EqNone.ne_str_none (aH I q (by simp))
  |bl j=>cases ry;exact PySem.EqMixed.ne_str_bool (aH I q (by simp))
  |int j=>obtain⟨t',rfl⟩:=ry;exact PySem.EqMixed.ne_str_int (aH I q (by simp))
  |str j=>obtain⟨t',rfl⟩:=ry;exact ne_str (aH I q (congrArg not f8))
  |_=>exact absurd (show false=true from hs) yL
 |byt i=>
  obtain⟨t,rfl⟩:=rx
  cases y with
  |byt j=>obtain⟨t',rfl⟩:=ry;exact PySem.W.ne_bytes (aH I q (congrArg not qL))
  |_=>exact absurd (show false=true from hs) yL
 |_=>cases y<;>exact absurd (show false=true from hs) yL
theorem op_lt:OpR X (compareOp .Lt) (rI0 λi j=>.bl (decide (i<j))):=opB0 λ_ _ _ _ _ _ _ q=>lt_int q
theorem op_gt:OpR X (compareOp .Gt) (rI0 λi j=>.bl (decide (j<i))):=opB0 λ_ _ _ _ _ _ _ q=>gt_int q
theorem op_ge:OpR X (compareOp .GtE) (rI0 λi j=>.bl (decide (j<=i))):=opB0 λ_ _ _ _ _ _ _ q=>ge_int q
theorem OpR.or(h:OpR X f r)(h':OpR X f r'):OpR X f (λx y H Q=>r x y H Q\/r' x y H Q):=by
 intro pins s σ H x y v u Q I rx ry q;rcases q with q|q
 ·exact h pins s σ H x y v u Q I rx ry q
 ·exact h' pins s σ H x y v u Q I rx ry q
noncomputable def TruV(K:PySem.W.Frag)(x:V)(H:Hp)(k:Bool):Prop:=
 match x with
 |.non=>k=false
 |.bl b=>k=b
 |.int i=>k=(i !=0)
 |.str y=>y.length<=sizeLine/\k=((y.length:Int) !=0)
 |.byt y=>y.size<=sizeLine/\k=((y.size:Int) !=0)
 |.ref p=>(∃xs,SqL K H p xs/\k=!xs.isEmpty)\/(∃xs,SqT K H p xs/\k=!xs.isEmpty)\/∃kvs,H p=some (.dK kvs)/\k=!kvs.isEmpty
 |_=>False
theorem oV{κ:Type}{kvs:List (κ×V)}{vs:List (κ×Value)}(r:KV kvs vs):(!vs.isEmpty)=!kvs.isEmpty:=by
 cases r<;>rfl
theorem gO(r:Vals xs its):(!its.toArray.isEmpty)=!xs.isEmpty:=by
 cases r<;>simp
theorem line63:(sizeLine:Nat)<2^63:=by rw[sizeLine_eq];decide
theorem tru_ok:TruR X (λx H Q=>∃k,TruV X.K x H k/\Q k H):=by
 intro pins s σ H x v Q I rx h;obtain⟨k,e,q⟩:=h;have hl:=line63;have hs:sizeLine=16777216:=sizeLine_eq
 cases x with
 |non=>
  cases rx;have e':k=false:=e;subst e';exact truthy_none ⟨H,I,q⟩
 |bl b=>
  cases rx;have e':k=b:=e;subst e';exact wpAny_truthy_bool ⟨H,I,q⟩
 |int i=>
  obtain⟨t,rfl⟩:=rx;have e':k=(i !=0):=e;subst e';exact PySem.P.truthy_int ⟨H,I,q⟩
 |str y=>
  obtain⟨t,rfl⟩:=rx;obtain⟨hy,e'⟩:y.length<=sizeLine/\k=((y.length:Int) !=0):=e;subst e';exact PySem.P.truthy_str (by omega) ⟨H,I.tok _,q⟩
 |byt y=>
  obtain⟨t,rfl⟩:=rx;obtain⟨hy,e'⟩:y.size<=sizeLine/\k=((y.size:Int) !=0):=e;subst e';exact PySem.W.truthy_bytes (by omega) ⟨H,I.tok _,q⟩
 |ref p=>
  cases rx;have e':(∃xs,SqL X.K H p xs/\k=!xs.isEmpty)\/(∃xs,SqT X.K H p xs/\k=!xs.isEmpty)\/∃kvs,H p=some (.dK kvs)/\k=!kvs.isEmpty:=e;rcases e' with⟨xs,hx,e'⟩|⟨xs,hx,e'⟩|⟨kvs,hx,e'⟩
  ·subst e'
   obtain⟨its,r,pl,hz⟩:=I.list hx;have hlen:=r.length;exact wpAny_truthy_list pl.isList (by simp only[yW];omega) ⟨H,I.tok _,by rw[gO r];exact q⟩
  ·subst e'
   obtain⟨its,r,pl,hz⟩:=I.tuple hx;have hlen:=r.length;exact truthy_tuple pl (by simp only[yW];omega) ⟨H,I.tok _,by rw[gO r];exact q⟩
  ·subst e'
   obtain⟨hz,hS,vs,r,m⟩:kvs.length<=sizeLine/\(p==sysModules)=false/\∃vs,KV kvs vs/\s.heap.DictOf (mixKind X.prog X.w) p vs:=I.hok p _ hx;have hlen:kvs.length=vs.length:=Paired.length r;exact wpAny_truthy_dict hS m (by omega) ⟨H,I.tok _,by rw[oV r];exact q⟩
 |_=>exact(show False from e).elim
theorem uW(ha:PE X a ta)(he:∀whole,isTrue a X.env whole=(do let v←whole;standAt a.pos;holding [v] (truthy v))):
  PT X a (λσ H Q=>ta σ H λx H'=>∃k,TruV X.K x H' k/\Q k H'):=by
 intro pins s σ H Q I h;exact isTrue_plain (thn (ha pins s σ H _ I h) λv s1 ⟨x,H1,I1,r1,q1⟩=>tru_ok pins s1 σ H1 x v Q I1 r1 q1) (he _)
theorem vals1(r:Vals [x] us):∃u,us=[u]/\RelV x u:=by
 cases r with
 |cons r1 r2=>cases r2;exact⟨_,rfl,r1⟩
theorem vals2(r:Vals [x,y] us):∃u w',us=[u,w']/\RelV x u/\RelV y w':=by
 cases r with
 |cons r1 r2=>
  cases r2 with
  |cons r3 r4=>cases r4;exact⟨_,_,rfl,r1,r3⟩
end
theorem RelO.some_of(r:RelO (some v) o):∃u,o=some u/\RelV v u:=by
 cases o with
 |none=>exact(show False from r).elim
 |some u=>exact⟨u,rfl,r⟩
structure Room(k:Nat)(A:Around):Prop where
 hd:A.handled=none
 dp:A.depth+3*k+5<recursionLimit
 un:A.units+16*k+200<cLine
theorem Room.mono(r:Room k A)(h:j<=k):Room j A:=⟨r.hd,by have:=r.dp;omega,by have:=r.un;omega⟩
theorem Room.deeper(r:Room (k+1) A)(env:Env):Room k (A.deeper env):=
 ⟨r.hd,by have:=r.dp;show A.depth+1+3*k+5<_;omega,by have:=r.un;show A.units+3+16*k+200<_;omega⟩
theorem Room.depth(r:Room k A):A.depth<recursionLimit:=by have:=r.dp;omega
theorem Room.units(r:Room k A):A.units+64<cLine:=by have:=r.un;omega
noncomputable def tNil:TA:=λ_ H Q=>Q [] H
noncomputable def tCons(ta:TE)(tr:TA):TA:=λσ H Q=>ta σ H λx H1=>tr σ H1 λxs H2=>Q (x::xs) H2
section
variable{X:Cx}{e:Expr}{es:List Expr}{te:TE}{t:TA}{pos:Pos}
theorem pa_nil:PA X [] tNil:=λ_ _ _ _ H Q I h=>Calls.spliced_nil ⟨[],H,I,.nil,h⟩
theorem pa_cons(ha:PE X e te)(hr:PA X es t)(hs:starEach (e::es) X.env=(false,eval e X.env)::starEach es X.env:=by rfl):PA X (e::es) (tCons te t):=by
 intro pos pins s σ H Q I h;rw[hs];show wpAny _ _ (spliced ((false,eval e X.env)::backTo pos (starEach es X.env))) _ _ s;refine Calls.spliced_cons (thn (ha pins s σ H _ I h) λu s1 ⟨x,H1,I1,r1,q1⟩=>?_);exact thn (hr pos pins s1 σ H1 _ I1 q1) λus s2 ⟨xs,H2,I2,r2,q2⟩=>⟨x::xs,H2,I2,.cons r1 r2,q2⟩
noncomputable def tTup(t:TA):TE:=λσ H Q=>t σ H λxs H1=>xs.length<=sizeLine/\∀p,H1 p=none->Q (.ref p) (upd H1 p (.tup xs))
noncomputable def tLst(t:TA):TE:=λσ H Q=>t σ H λxs H1=>xs.length<=sizeLine/\∀p,H1 p=none->Q (.ref p) (upd H1 p (.lst xs))
theorem kS{x1}(h:PA X es t):PE X (.Tuple es x1 pos) (tTup t):=by
 intro pins s σ H Q I hq;refine wpAny_Tuple_spliced (thn (h pos pins s σ H _ I hq) λus s1 ⟨xs,H1,I1,r,z,q⟩=>⟨by rw[←r.length];exact z,?_⟩);have hf:H1 s1.heap.objs.size=none:=I1.hok.fresh (yP _);refine⟨.ref s1.heap.objs.size,upd H1 s1.heap.objs.size (.tup xs),I1.laid (t':=s1.toks) (λb u e=>yO _ e) (yP _) ?_,rfl,q _ hf⟩;exact⟨z,us,r,⟨_,y9 _ rfl,rfl,_,rfl⟩⟩
theorem pe_lst(h:PA X es t):PE X (.List es pos) (tLst t):=by
 intro pins s σ H Q I hq;refine wpAny_List_spliced (thn (h pos pins s σ H _ I hq) λus s1 ⟨xs,H1,I1,r,z,q⟩=>⟨by rw[←r.length];exact z,?_⟩);have hf:H1 s1.heap.objs.size=none:=I1.hok.fresh (yP _);refine⟨.ref s1.heap.objs.size,upd H1 s1.heap.objs.size (.lst xs),I1.laid (t':=s1.toks) (λb u e=>yO _ e) (yP _) ?_,rfl,q _ hf⟩;exact⟨z,us,0,r,y9 _ rfl⟩
end
noncomputable abbrev Sp:=List V->Hp->VK->XK->Prop
noncomputable abbrev CXT:=List Env->Hp->Shared->XK->Value->Shared->Prop
structure Env0(P:Program)(w:World)(K:PySem.W.Frag)(mg:Str->Option Value)(base:Heap)(A:Around)(outer:List Env)(s:Shared)(H:Hp):Prop where
 frames:A.frames=some outer
 mod:Mod K mg base
 bs:∀b o,base.get? b=some o->s.heap.get? b=some o/\H b=none
 bsz:base.objs.size<=s.heap.objs.size
 funs:s.heap.FunFrames base outer
 frf:∀b∈frs outer,H b=none
 hok:HOk P w H s.heap
 bare:AllBare s.gens
noncomputable def CE(outer:List Env)(P:Program)(w:World)(H:Hp)(s:Shared)(Q:VK)(u:Value)(s':Shared):Prop:=
 ∃v H',s'.os=s.os/\AllBare s'.gens/\Un (frs outer) [] H H' s.heap s'.heap/\HOk P w H' s'.heap/\RelV v u/\Q v H'
noncomputable def CR(CX:CXT)(outer:List Env)(P:Program)(w:World)(H:Hp)(s:Shared)(Q:VK)(E:XK)(r:Result)(s':Shared):Prop:=
 match r with
 |.ok (.ret u)=>CE outer P w H s Q u s'
 |.ok _=>False
 |.error e=>CX outer H s E e s'
structure FnOk(P:Program)(w:World)(K:PySem.W.Frag)(mg:Str->Option Value)(base:Heap)(CX:CXT)(k:Nat)(f:Addr)(fd:FuncData)(ps:List Str)(sp:Sp):Prop where
 len:∀vs H Q E,sp vs H Q E->vs.length=ps.length
 run:∀(A:Around)(outer:List Env)(s:Shared)(H:Hp)(args:Args)(us:List Value)(vs:List V)(Q:VK)(E:XK),Room k A->Env0 P w K mg base A outer s H->BindsTo s fd args (ps.zip us)->Vals vs us->sp vs H Q E->
  codeAny (model P w) A (.call (.ref f) args) (CR CX outer P w H s Q E) s
section
variable{X:Cx}{pins:List (Addr×Obj)}{σ:St}{H:Hp}{s s':Shared}
theorem Inv.env0(I:Inv X pins σ H s):Env0 X.prog X.w X.K X.mg X.base X.A X.stack s H:=
 ⟨I.ok.frames,I.ok.mod,I.bs,zB I.ok.bsz I.sz,I.stack,I.stkFree,I.hok,I.bare⟩
theorem Inv.after(I:Inv X pins σ H s)(h:CE X.stack X.prog X.w H s Q u s'):EP X pins σ Q u s':=by
 obtain⟨v,H',os,bare,un,hok,r,q⟩:=h;obtain⟨hh,g,d,t,os'⟩:=s';obtain rfl:os'=s.os:=os;exact⟨v,H',I.call (h':=hh) (g':=g) (d':=d) (t':=t) (ch:=[]) un hok bare (λb z=>absurd z (by simp)),r,q⟩
end
noncomputable def Binds(K:PySem.W.Frag)(fd:FuncData)(ps:List Str)(ds:List Value):Prop:=
 ∀(s:Shared)(us:List Value),K.In s.heap->(us++ds).length=ps.length->BindsTo s fd ⟨us,[]⟩ (ps.zip (us++ds))
theorem Binds.all{K:PySem.W.Frag}(h:∀us:List Value,us.length=ps.length->bindArgs fd ⟨us,[]⟩=pure (ps.zip us)):Binds K fd ps []:=λs us _ hl=>by
 rw[aAQ] at hl⊢;exact .of_eq (h us hl)
structure FnScope(N P:List Str)(sc:Scope):Prop where
 kind:sc.kind=.function
 co:sc.isCoroutine=false
 gen:sc.isGenerator=false
 nd:N.Nodup
 pre:N.take P.length=P
 par:∀x∈P,sc.names.lookup x=some .local\/sc.names.lookup x=some .cell
 nofree:∀y∈sc.names,y.2≠.free
theorem jG{kindOf:Str->Option NameKind}:∀{binds:List (Str×Value)}{m:Str->Option Value},(∀v,(x,v)∉binds)->bindL kindOf binds m x=m x
 |[],_,_=>rfl
 |(n,v)::r,m,h=>by
  unfold bindL;rw[jG λw hw=>h w (yR _ hw)];split
  ·have:x≠n:=by rintro rfl;exact h v yZ
   simp[this]
  ·rfl
theorem jH{kindOf:Str->Option NameKind}:∀{binds:List (Str×Value)}{m:Str->Option Value},(∀v,(x,v)∉binds)->bindC kindOf binds m x=m x
 |[],_,_=>rfl
 |(n,v)::r,m,h=>by
  unfold bindC;rw[jH λw hw=>h w (yR _ hw)];split
  ·rfl
  ·have:x≠n:=by rintro rfl;exact h v yZ
   simp[this]
theorem jI{kindOf:Str->Option NameKind}:∀{P:List Str}{vs:List Value}{i:Nat}{m:Str->Option Value},P.Nodup->P[i]?=some x->vs[i]?=some v->kindOf x=some .local->
  bindL kindOf (P.zip vs) m x=some v
 |[],_,_,_,_,h,_,_=>by simp at h
 |_::_,[],_,_,_,_,h,_=>by simp at h
 |p::P,w::vs,0,m,nd,h1,h2,hk=>by
  simp at h1 h2;subst h1;subst h2;show bindL kindOf ((p,w)::P.zip vs) m p=_;unfold bindL;rw[jG λv hv=>(List.nodup_cons.mp nd).1 (List.of_mem_zip hv).1,yM hk];simp
 |p::P,w::vs,i+1,m,nd,h1,h2,hk=>by
  show bindL kindOf ((p,w)::P.zip vs) m x=_;unfold bindL;exact jI (i:=i) (List.nodup_cons.mp nd).2 (by simpa using h1) (by simpa using h2) hk
theorem jJ{kindOf:Str->Option NameKind}:∀{P:List Str}{vs:List Value}{i:Nat}{m:Str->Option Value},P.Nodup->P[i]?=some x->vs[i]?=some v->kindOf x≠some .local->
  bindC kindOf (P.zip vs) m x=some v
 |[],_,_,_,_,h,_,_=>by simp at h
 |_::_,[],_,_,_,_,h,_=>by simp at h
 |p::P,w::vs,0,m,nd,h1,h2,hk=>by
  simp at h1 h2;subst h1;subst h2;show bindC kindOf ((p,w)::P.zip vs) m p=_;unfold bindC;rw[jH λv hv=>(List.nodup_cons.mp nd).1 (List.of_mem_zip hv).1,yK hk];simp
 |p::P,w::vs,i+1,m,nd,h1,h2,hk=>by
  show bindC kindOf ((p,w)::P.zip vs) m x=_;unfold bindC;exact jJ (i:=i) (List.nodup_cons.mp nd).2 (by simpa using h1) (by simpa using h2) hk
noncomputable def start(N:List Str)(vs:List V):St:=vs.map some++List.replicate (N.length-vs.length) none
noncomputable def cxOf(CX:CXT)(P:Program)(w:World)(K:PySem.W.Frag)(mg:Str->Option Value)(base:Heap)(N:List Str)(qual:Str)(scope:Scope)(f:Addr)(cd:Value)(A:Around)(outer:List Env)(s:Shared)(H:Hp)(E:XK):Cx where
 prog:=P
 w:=w
 K:=K
 mg:=mg
 base:=base
 A:=A.deeper (envOfC qual scope s.heap.objs.size f cd)
 N:=N
 s₀:=s
 H₀:=H
 env:=envOfC qual scope s.heap.objs.size f cd
 outer:=outer
 stack:=envOfC qual scope s.heap.objs.size f cd::outer
 ex:=[]
 calm:=true
 fn:=λ_=>true
 pn:=[]
 xe:=λe s'=>wpAny (model P w) (A.deeper (envOfC qual scope s.heap.objs.size f cd)) (leaving (envOfC qual scope s.heap.objs.size f cd) e) (λ_ s''=>CX outer H s E e s'') (λe' s''=>CX outer H s E e' s'') s'
theorem mD{sc:Scope}(h:sc.names.lookup x=some .cell):∃c,(cellsFrom n sc.names []).lookup x=some c:=by
 have q:=PySem.W.cellsFrom_some sc.names n [] (.inl h);exact Option.isSome_iff_exists.mp q
theorem sO{K:PySem.W.Frag}
  (S:FnScope N ps scope) (hd:A.handled=none) (e0:Env0 P w K mg base A outer s H) (hl:vs.length=ps.length) (r:Vals vs us)
  (x:InCallC s s.heap.objs.size (bindL (envOfC qual scope s.heap.objs.size f cd).kindOf (ps.zip us) λ_=>none) (cellsFrom (s.heap.objs.size+1) scope.names []) (bindC (envOfC qual scope s.heap.objs.size f cd).kindOf (ps.zip us) λ_=>none) s1):
  Inv (cxOf CX P w K mg base N qual scope f cd A outer s H E) [] (start N vs) H s1:=by
 have hpl:ps.length<=N.length:=by have:=congrArg List.length S.pre;rw[zO] at this;omega
 obtain⟨h1,tk,rfl,hk⟩:=x.done;have noA:∀b:Addr,b∉(cxOf CX P w K mg base N qual scope f cd A outer s H E).ex:=λb z=>absurd (show b∈([]:List Addr) from z) (by simp);refine⟨⟨e0.mod,S.kind,rfl,rfl,yP _,λy z c h1 h2=>?_,λy hy=>?_,λy c _ h=>?_,λ_=>hd,Around.frames_deeper e0.frames,.inr ⟨rfl,rfl⟩,λb z=>absurd z (noA b),e0.bs,e0.bsz,λb _ _=>noA b,λb z=>absurd z (noA b),e0.funs,e0.frf⟩,
  rfl,e0.bare,Un.kept hk,⟨_,x.toInCall.ns,λi y v h1 h2 h3=>?_⟩,λy c h=>⟨_,x.cell y c h⟩,e0.hok.fresh (yP _),λy c h=>?_,λp hp=>absurd (show p∈([]:List (Addr×Obj)) from hp) (by simp),e0.hok.kept hk,?_⟩
 ·exact name_of_addr x.apart (aAK h1) (aAK h2)
 ·have hy:scope.names.lookup y=some .cell\/scope.names.lookup y=some .free:=hy
  rcases hy with hy|hy
  ·exact mD hy
  ·exact absurd rfl (S.nofree _ (aAK hy))
 ·exact Nat.le_of_lt (x.above y c (aAK h))
 ·have hi:i<vs.length:=by
   unfold start at h2;by_cases hi:i<vs.length
   ·exact hi
   ·rw[zF (by simpa using hi)] at h2
    rw[List.getElem?_replicate] at h2;split at h2<;>cases h2
  have ha:vs[i]?=some v:=by
   unfold start at h2;rw[zG (by simpa using hi),zE] at h2
   cases e:vs[i]? with
   |none=>rw[e] at h2;cases h2
   |some a=>rw[e] at h2;cases h2;rfl
  obtain⟨u,hu,rv⟩:=r.get ha;have hp:ps[i]?=some y:=by
   rw[←S.pre,List.getElem?_take_of_lt (by omega)];exact h1
  have ndP:ps.Nodup:=by rw[←S.pre];exact S.nd.sublist (List.take_sublist _ _)
  refine⟨u,rv,?_⟩;rcases S.par y (aAA hp) with k|k
  ·exact .inl ⟨k,jI ndP hp hu k⟩
  ·obtain⟨c,e⟩:=mD (n:=s.heap.objs.size+1) k
   refine .inr ⟨.inl k,c,e,?_⟩;have q:=x.cell y c e;rw[jJ ndP hp hu (by show scope.names.lookup y≠_;rw[k];decide)] at q;exact q
 ·exact e0.hok.fresh (Nat.le_of_lt (x.above y c (aAK h)))
 ·unfold start
  show _=N.length;rw[yY,yI,List.length_replicate];omega
theorem fn_of{K:PySem.W.Frag}{dV kV doc pm cdv ct oc:Value}
  (lk:K.lookup f=some ⟨oc,od,.func (PySem.W.fnOf name qual params body scope dV kV doc pm an cdv ct),osl⟩) (hcd:PySem.W.codeIn K cdv qual=true) (S:FnScope N ps scope)
  (len:∀vs H Q E,sp vs H Q E->vs.length=ps.length)
  (hbody:∀(A:Around)(outer:List Env)(s:Shared)(H:Hp)(vs:List V)(Q:VK)(E:XK),Room k (A.deeper (envOfC qual scope s.heap.objs.size f cdv))->sp vs H Q E->
   ∃t,PSs (cxOf CX P w K mg base N qual scope f cdv A outer s H E) body t/\t {nx:=λ_ H'=>Q .non H',rt:=Q} (start N vs) H):
  FnOk P w K mg base CX (k+1) f (PySem.W.fnOf name qual params body scope dV kV doc pm an cdv ct) ps sp:=by
 refine⟨len,λA outer s H args us vs Q E hr e0 hb r hsp=>?_⟩;have hl:=len _ _ _ _ hsp;have KX:K.In s.heap:=e0.mod.kin.keeps λb o e=>(e0.bs b o e).1;have lim:s.heap.NoLimit:=e0.mod.nolimit.keeps λb o e=>(e0.bs b o e).1;have hkind:∀y∈ps.zip us,scope.names.lookup y.1=some .local\/(scope.names.lookup y.1=some .cell/\((cellsFrom (s.heap.objs.size+1) scope.names []).lookup y.1).isSome=true):=λ⟨n,v⟩ hy=>by
  rcases S.par n (List.of_mem_zip hy).1 with q|q
  ·exact .inl q
  ·exact .inr ⟨q,PySem.W.cellsFrom_some _ _ _ (.inl q)⟩
 refine codeAny_call_function hr.depth (KX _ _ lk) rfl S.co S.gen rfl (PySem.W.codeRec_of KX hcd) (hb _ _ _ _ ?_);refine wpAny_newFunctionEnv_cells S.kind hkind λenv he s1 x=>?_;subst he;refine⟨lim.keeps x.toInCall.keep,codeAny_func ?_⟩;obtain⟨t,ht,hq⟩:=hbody A outer s H vs Q E (hr.deeper _) hsp;have I:Inv (cxOf CX P w K mg base N qual scope f cdv A outer s H E) [] (start N vs) H s1:=sO S hr.hd e0 hl r x;refine z8 (ht [] s1 (start N vs) H _ I hq) (λfl s' hs=>?_) λe s' hs=>hs;have fin:∀{σ':St}{H':Hp}{v:V}{u:Value},Inv (cxOf CX P w K mg base N qual scope f cdv A outer s H E) [] σ' H' s'->RelV v u->Q v H'->CE outer P w H s Q u s':=
  λ{σ' H' v u} J rv q=>⟨v,H',J.os,J.bare,J.base,J.hok,rv,q⟩
 cases fl with
 |ret u=>
  obtain⟨v,σ',H',J,rv,q⟩:=hs;exact fin J rv q
 |next=>
  obtain⟨σ',H',J,q⟩:=hs;exact fin (v:=V.non) (u:=Value.none) J rfl q
 |brk=>
  obtain⟨_,_,_,q⟩:=hs;exact False.elim q
 |cont=>
  obtain⟨_,_,_,q⟩:=hs;exact False.elim q
section
variable{X:Cx}{x:Str}{p pos:Pos}{e:Expr}{es:List Expr}{t:TA}{id T:String}{r:List V->Hp->VK->Prop}
noncomputable def tCB(r:List V->Hp->VK->Prop)(t:TA):TE:=λσ H Q=>t σ H λvs H1=>r vs H1 Q
theorem dF(hc:CallR X (.builtin id) r)(hg:Gl X x)(hm:X.mg x=none)(hv:bootBuiltins x=some (.builtin id))(ha:PA X (e::es) t)(hn:x≠"__name__":=by decide)(hdb:(x==("__debug__":Str))=false:=by decide)
  (he:starEach (e::es) X.env=(false,eval e X.env)::starEach es X.env:=by rfl) (hpl:(backTo pos (starEach es X.env)).any (·.1)=false:=by rfl):PE X (.Call (.Name x p) (e::es) [] pos) (tCB r t):=by
 intro pins s σ H Q I h;refine wpAny_Call_Name_kw (eG I hg hm hv ?_ hn hdb);exact PyProof.Rows.callWith_builtin1 (thn (ha pos pins s σ H _ I h) λus s1 ⟨vs,H1,I1,r1,q1⟩=>hc pins s1 σ H1 vs us Q I1 r1 q1) he hpl
theorem eI(hc:CallR X (.type T) r)(hg:Gl X x)(hm:X.mg x=none)(hv:bootBuiltins x=some (.type T))(ha:PA X (e::es) t)(hn:x≠"__name__":=by decide)(hdb:(x==("__debug__":Str))=false:=by decide)
  (he:starEach (e::es) X.env=(false,eval e X.env)::starEach es X.env:=by rfl) (hpl:(backTo pos (starEach es X.env)).any (·.1)=false:=by rfl):PE X (.Call (.Name x p) (e::es) [] pos) (tCB r t):=by
 intro pins s σ H Q I h;refine wpAny_Call_Name_kw (eG I hg hm hv ?_ hn hdb);exact PyProof.Rows.callWith_type1 (thn (ha pos pins s σ H _ I h) λus s1 ⟨vs,H1,I1,r1,q1⟩=>hc pins s1 σ H1 vs us Q I1 r1 q1) he hpl
end
section
variable{κ:Type}[DecidableEq κ]
noncomputable def valV(kvs:List (κ×V))(k:κ):Option V:=(kvs.find? λkv=>decide (kv.1=k)).map (·.2)
noncomputable def putK(kvs:List (κ×V))(k:κ)(v:V):List (κ×V):=
 if(kvs.any λkv=>decide (kv.1=k))=true then kvs.map (λkv=>if kv.1=k then(kv.1,v) else kv) else kvs++[(k,v)]
theorem dG{k:κ}(e:p.1=k):valV (p::r) k=some p.2:=by simp[valV,zU,e]
theorem dH{k:κ}(e:¬p.1=k):valV (p::r) k=valV r k:=by simp[valV,zU,e]
theorem mE(k:κ):∀kvs:List (κ×V),(kvs.any λkv=>decide (kv.1=k))=(valV kvs k).isSome
 |[]=>rfl
 |p::r=>by
  rw[List.any_cons];by_cases e:p.1=k
  ·simp only[dG e,zT e,Bool.true_or,Option.isSome_some]
  ·rw[dH e,zM e,Bool.false_or];exact mE k r
theorem bW(kvs:List (κ×V))(k:κ)(v:V):(putK kvs k v).length<=kvs.length+1:=by
 unfold putK;split
 ·rw[yI];omega
 ·rw[yY,yJ,y7];omega
theorem RelO.isSome_eq(r:RelO o u):o.isSome=u.isSome:=by
 cases o with
 |none=>cases u with
  |none=>rfl
  |some _=>exact(show False from r).elim
 |some _=>cases u with
  |none=>exact(show False from r).elim
  |some _=>rfl
theorem RelO.getD(r:RelO o u)(rd:RelV d d'):RelV (o.getD d) (u.getD d'):=by
 cases o with
 |none=>cases u with
  |none=>exact rd
  |some _=>exact(show False from r).elim
 |some _=>cases u with
  |none=>exact(show False from r).elim
  |some _=>exact r
theorem KV.val(r:KV kvs vs)(k:κ):RelO (valV kvs k) (valueAt vs k):=by
 unfold KV at r
 induction r with
 |nil=>exact True.intro
 | @cons p q ps qs h t ih=>
  obtain⟨h1,h2⟩:=h;by_cases e:p.1=k
  ·have e':q.1=k:=h1.symm.trans e
   have b:valueAt (q::qs) k=some q.2:=by simp[valueAt,zU,e']
   rw[dG e,b];exact h2
  ·have e':¬q.1=k:=λz=>e (h1.trans z)
   have b:valueAt (q::qs) k=valueAt qs k:=by simp[valueAt,zU,e']
   rw[dH e,b];exact ih
theorem KV.any(r:KV kvs vs)(k:κ):(kvs.any λkv=>decide (kv.1=k))=vs.any λkv=>decide (kv.1=k):=by
 unfold KV at r
 induction r with
 |nil=>rfl
 |cons h t ih=>rw[List.any_cons,List.any_cons,ih,h.1]
theorem KV.repl(r:KV kvs vs)(k:κ)(ry:RelV y u):
  KV (kvs.map λkv=>if kv.1=k then(kv.1,y) else kv) (vs.map λkv=>if kv.1=k then(kv.1,u) else kv):=by
 unfold KV at r⊢
 induction r with
 |nil=>exact .nil
 | @cons p q ps qs h t ih=>
  rw[yQ,yQ];refine .cons ?_ ih;obtain⟨h1,h2⟩:=h;by_cases e:p.1=k
  ·rw[yM e,yM (h1.symm.trans e)];exact⟨h1,ry⟩
  ·rw[yK e,yK (λz=>e (h1.trans z))];exact⟨h1,h2⟩
theorem KV.put(r:KV kvs vs)(k:κ)(ry:RelV y u):KV (putK kvs k y) (stored vs k u):=by
 unfold putK stored;rw[r.any k];by_cases e:(vs.any λkv=>decide (kv.1=k))=true
 ·rw[yM e,yM e];exact r.repl k ry
 ·rw[yK e,yK e];exact Paired.snoc r ⟨rfl,ry⟩
theorem KV.length{vs:List (κ×Value)}(r:KV kvs vs):kvs.length=vs.length:=Paired.length r
end
theorem gP(r:RelV (kV k) u):(mixKind P w).is k u=true:=by
 cases k with
 |inl i=>obtain⟨t,e⟩:=(show∃t,u=Value.int i t from r);subst e;exact l6 P w i t
 |inr x=>obtain⟨t,e⟩:=(show∃t,u=Value.str x t from r);subst e;exact l7 P w x t
theorem jK:∀{ks:List Key}{us:List Value},Vals (ks.map kV) us->ItemsAre (mixKind P w) ks us
 |[],_,r=>by rw[aAO] at r;cases r;exact .nil
 |k::ks,_,r=>by
  rw[yQ] at r
  cases r with
  |cons h t=>exact .cons (gP h) (jK t)
noncomputable abbrev KT(H:Hp):List (List Key×V)->List (List Key×Addr×Value)->Prop:=Paired λp q=>p.1=q.1/\H q.2.1=some (.tup (p.1.map kV))/\RelV p.2 q.2.2
theorem KT.val(r:KT H kvs xs)(k:List Key):RelO (valV kvs k) ((atKey xs k).map (·.2)):=by
 induction r with
 |nil=>exact True.intro
 | @cons p q ps qs h t ih=>
  obtain⟨h1,_,h2⟩:=h;by_cases e:p.1=k
  ·have e':q.1=k:=h1.symm.trans e
   have b:atKey (q::qs) k=some q.2:=by simp[atKey,zU,e']
   rw[dG e,b];exact h2
  ·have e':¬q.1=k:=λz=>e (h1.trans z)
   have b:atKey (q::qs) k=atKey qs k:=by simp[atKey,zU,e']
   rw[dH e,b];exact ih
theorem KT.repl(r:KT H kvs xs)(k:List Key)(ry:RelV y u):
  KT H (kvs.map λkv=>if kv.1=k then(kv.1,y) else kv) (xs.map (putAt k u)):=by
 induction r with
 |nil=>exact .nil
 | @cons p q ps qs h t ih=>
  rw[yQ,yQ];refine .cons ?_ ih;obtain⟨h1,h2,h3⟩:=h;unfold putAt;by_cases e:p.1=k
  ·rw[yM e,yM (h1.symm.trans e)];exact⟨h1,h2,ry⟩
  ·rw[yK e,yK (λz=>e (h1.trans z))];exact⟨h1,h2,h3⟩
theorem KT.put(r:KT H kvs xs)(k:List Key)(hb:H b=some (.tup (k.map kV)))(ry:RelV y u):
  KT H (putK kvs k y) (storedH xs k b u):=by
 have e:(kvs.any λkv=>decide (kv.1=k))=(atKey xs k).isSome:=by
  rw[mE,(r.val k).isSome_eq,Option.isSome_map]
 unfold putK storedH;rw[e];by_cases q:(atKey xs k).isSome=true
 ·rw[yM q,yM q];exact r.repl k ry
 ·rw[yK q,yK q];exact Paired.snoc r ⟨rfl,hb,ry⟩
theorem KT.keeps(r:KT H kvs xs)(ht:∀b ys,H b=some (.tup ys)->H' b=some (.tup ys)):KT H' kvs xs:=
 Paired.mapP r λ_ _ z=>⟨z.1,ht _ _ z.2.1,z.2.2⟩
section
variable{P:Program}{w:World}{H:Hp}{h:Heap}{a:Addr}
theorem uX(ok:HOk P w H h)(e:Rd H a u):ObjOk P w H h a u:=e.ok ok
theorem dI(ok:HOk P w H h)(e:Rd H a (.dK kvs)):kvs.length<=sizeLine/\(a==sysModules)=false/\∃vs,KV kvs vs/\h.DictOf (mixKind P w) a vs:=
 show ObjOk P w H h a (.dK kvs) from uX ok e
theorem dk_of(ok:HOk P w H h)(e:H a=some (.dK kvs)):kvs.length<=sizeLine/\(a==sysModules)=false/\∃vs,KV kvs vs/\h.DictOf (mixKind P w) a vs:=dI ok (.inl e)
theorem eJ(ok:HOk P w H h)(e:H a=some (.tup (ks.map kV))):(tupleKind (mixKind P w)).is h ks a:=by
 obtain⟨_,its,r,o,h1,h2,n,h3⟩:=(show ObjOk P w H h a (.tup (ks.map kV)) from ok a _ e)
 exact⟨o,its.toArray,n,h1,h2,h3,by simpa using jK r⟩
theorem jL(ok:HOk P w H h)(e:Rd H a (.dT kvs)):kvs.length<=sizeLine/\(a==sysModules)=false/\
  ∃xs,KT H kvs xs/\h.DictOfH (tupleKind (mixKind P w)) a xs:=by
 obtain⟨z,y,xs,r,o,es,ep,h1,h2,h3,h4,h5⟩:=(show ObjOk P w H h a (.dT kvs) from uX ok e)
 refine⟨z,y,xs,r,o,es,ep,h1,h2,h3,h4,λx hx=>?_,h5⟩;have all:∀{l:List (List Key×V)}{m:List (List Key×Addr×Value)},KT H l m->∀x∈m,(tupleKind (mixKind P w)).is h x.1 x.2.1:=by
  intro l m q
  induction q with
  |nil=>intro x hx;exact nomatch hx
  | @cons p q ps qs hq t ih=>
   intro x hx;rcases List.mem_cons.mp hx with e|hx
   ·subst e
    exact eJ ok (by rw[←hq.1];exact hq.2.1)
   ·exact ih x hx
 exact all r x hx
theorem dt_of(ok:HOk P w H h)(e:H a=some (.dT kvs)):kvs.length<=sizeLine/\(a==sysModules)=false/\
  ∃xs,KT H kvs xs/\h.DictOfH (tupleKind (mixKind P w)) a xs:=jL ok (.inl e)
end
noncomputable def DGet(H:Hp)(a:Addr)(y:V)(r:Option V):Prop:=
 (∃kvs k,Rd H a (.dK kvs)/\y=kV k/\r=valV kvs k)\/∃kvs k b,Rd H a (.dT kvs)/\y=.ref b/\H b=some (.tup (k.map kV))/\r=valV kvs k
noncomputable def DPut(H:Hp)(a:Addr)(y v:V)(H':Hp):Prop:=
 (∃kvs k,H a=some (.dK kvs)/\y=kV k/\kvs.length<sizeLine/\H'=upd H a (.dK (putK kvs k v)))\/
 ∃kvs k b,H a=some (.dT kvs)/\y=.ref b/\H b=some (.tup (k.map kV))/\kvs.length<sizeLine/\H'=upd H a (.dT (putK kvs k v))
theorem DGet.k{H:Hp}{a:Addr}{kvs:List (Key×V)}{k:Key}(e:H a=some (.dK kvs)):DGet H a (kV k) (valV kvs k):=.inl ⟨kvs,k,.inl e,rfl,rfl⟩
theorem DPut.k{H:Hp}{a:Addr}{kvs:List (Key×V)}{k:Key}{v:V}(e:H a=some (.dK kvs))(hl:kvs.length<sizeLine):DPut H a (kV k) v (upd H a (.dK (putK kvs k v))):=.inl ⟨kvs,k,e,rfl,hl,rfl⟩
section
variable{X:Cx}{pins:List (Addr×Obj)}{σ:St}{H:Hp}{s:Shared}{a:Addr}{y v:V}{u r:Value}{o:Option V}{A:Around}{E:Value->Shared->Prop}
theorem Inv.big(I:Inv X pins σ H s):sysModules<s.heap.objs.size:=by
 have h:mainGlobals<s.heap.objs.size:=(I.mod.glob.keeps I.bk).lt;exact Nat.lt_trans (by decide) h
theorem sP(hu:A.units+1<cLine)(I:Inv X pins σ H s)(g:DGet H a y (some v))(ry:RelV y u)(h:∀w' s',Inv X pins σ H s'->RelV v w'->Q w' s'):
  wpAny (model X.prog X.w) A (getItem (.ref a) u) Q E s:=by
 rcases g with⟨kvs,k,e,ey,l⟩|⟨kvs,k,b,e,ey,eb,l⟩
 ·subst ey
  obtain⟨z,hd,vs,rel,dd⟩:=dI I.hok e;obtain⟨w',hw,rw'⟩:=RelO.some_of (v:=v) (o:=valueAt vs k) (by rw[l];exact rel.val k);exact wpAny_getItem_of (gP ry) dd.mapOf hw (h w' _ (I.tok _) rw')
 ·subst ey
  cases (show u=Value.ref b from ry);obtain⟨z,hd,xs,rel,dd⟩:=jL I.hok e;obtain⟨w',hw,rw'⟩:=RelO.some_of (v:=v) (o:=(atKey xs k).map (·.2)) (by rw[l];exact rel.val k);obtain⟨p,hp,hp2⟩:=Option.map_eq_some_iff.mp hw;refine wpAny_getItem_heap (tupleKind_room_in1 hu) (eJ I.hok eb) dd hp ?_;rw[hp2];exact h w' _ (I.tok _) rw'
theorem d_in(hu:A.units+1<cLine)(I:Inv X pins σ H s)(g:DGet H a y o)(ry:RelV y u)(h:∀s',Inv X pins σ H s'->Q (.bool o.isSome) s'):
  wpAny (model X.prog X.w) A (compareOp .In u (.ref a)) Q E s:=by
 rcases g with⟨kvs,k,e,ey,l⟩|⟨kvs,k,b,e,ey,eb,l⟩
 ·subst ey
  obtain⟨z,hd,vs,rel,dd⟩:=dI I.hok e;refine wpAny_in_of (gP ry) hd dd.mapOf ?_;rw[←(rel.val k).isSome_eq,←l];exact h _ (I.tok _)
 ·subst ey
  cases (show u=Value.ref b from ry);obtain⟨z,hd,xs,rel,dd⟩:=jL I.hok e;refine wpAny_in_heap (tupleKind_room_in1 hu) (eJ I.hok eb) hd dd ?_;have q:=(rel.val k).isSome_eq;rw[Option.isSome_map] at q;rw[←q,←l];exact h _ (I.tok _)
theorem d_notIn(hu:A.units+1<cLine)(I:Inv X pins σ H s)(g:DGet H a y o)(ry:RelV y u)(h:∀s',Inv X pins σ H s'->Q (.bool (!o.isSome)) s'):
  wpAny (model X.prog X.w) A (compareOp .NotIn u (.ref a)) Q E s:=by
 rcases g with⟨kvs,k,e,ey,l⟩|⟨kvs,k,b,e,ey,eb,l⟩
 ·subst ey
  obtain⟨z,hd,vs,rel,dd⟩:=dI I.hok e;refine wpAny_notIn_of (gP ry) hd dd.mapOf ?_;rw[←(rel.val k).isSome_eq,←l];exact h _ (I.tok _)
 ·subst ey
  cases (show u=Value.ref b from ry);obtain⟨z,hd,xs,rel,dd⟩:=jL I.hok e;refine wpAny_notIn_heap (tupleKind_room_in1 hu) (eJ I.hok eb) hd dd ?_;have q:=(rel.val k).isSome_eq;rw[Option.isSome_map] at q;rw[←q,←l];exact h _ (I.tok _)
theorem dJ{h':Heap}{t':Nat}{ob:HO}(I:Inv X pins σ H s)(mu:Mut (H a))(hs:Heap.SameBut a s.heap h')(he:∃q,h'.get? a=some q)(new:ObjOk X.prog X.w (upd H a ob) h' a ob):
  Inv X pins σ (upd H a ob) {s with heap:=h',toks:=t'}:=
 I.write (x:=a) (e:=a) mu (.inl rfl) (λb q hb z=>(hs.2 b hb).trans z) he new
theorem dk_new(z:kvs.length<=sizeLine)(hd:(a==sysModules)=false)(rel:KV kvs vs)(dd:h'.DictOf (mixKind P w) a vs):
  ObjOk P w H' h' a (.dK kvs):=⟨z,hd,vs,rel,dd⟩
theorem jM(hu:A.units+1<cLine)(I:Inv X pins σ H s)(g:DPut H a y v H')(ry:RelV y u)(rv:RelV v r)(h:∀s',Inv X pins σ H' s'->Q () s'):
  wpAny (model X.prog X.w) A (setItem (.ref a) u r) Q E s:=by
 rcases g with⟨kvs,k,e,ey,l,eH⟩|⟨kvs,k,b,e,ey,eb,l,eH⟩
 ·subst ey eH
  obtain⟨z,hd,vs,rel,dd⟩:=dk_of I.hok e;have hz:vs.length<=sizeLine:=by rw[←rel.length];exact z
  have hl:(putK kvs k v).length<=sizeLine:=by have:=bW kvs k v;omega
  refine wpAny_setItem_pairs (hsz:=hz) (gP ry) dd λh' dd' hs=>h _ ?_;have he:∃q,h'.get? a=some q:=let⟨q,_,_,hq,_⟩:=dd';⟨q,hq⟩;exact dJ I (by rw[e];exact True.intro) hs he (dk_new hl hd (rel.put k rv) dd')
 ·subst ey eH
  cases (show u=Value.ref b from ry);obtain⟨z,hd,xs,rel,dd⟩:=dt_of I.hok e;have hz:xs.length<=sizeLine:=by rw[←Paired.length rel];exact z
  have hl:(putK kvs k v).length<=sizeLine:=by have:=bW kvs k v;omega
  refine wpAny_setItem_heap (hsz:=hz) (tupleKind_room_in1 hu) (eJ I.hok eb) dd λh' dd' hs=>h _ ?_;obtain⟨q,es,ep,hq,h2,h3,h4,_,h5⟩:=dd';refine dJ I (by rw[e];exact True.intro) hs ⟨q,hq⟩ ⟨hl,hd,_,(rel.put k eb rv).keeps λc ys ec=>?_,q,es,ep,hq,h2,h3,h4,h5⟩;rw[aA (ne_of ec e (λz=>nomatch z))];exact ec
end
section
variable{X:Cx}{pins:List (Addr×Obj)}{σ:St}{H:Hp}{s:Shared}{a:Addr}{kvs:List (Key×V)}{k:Key}{u:Value}{A:Around}{E:Value->Shared->Prop}
theorem d_len(I:Inv X pins σ H s)(e:Rd H a (.dK kvs))(h:∀t s',Inv X pins σ H s'->Q (.int kvs.length t) s'):wpAny (model X.prog X.w) A (call (.builtin "len") [.ref a]) Q E s:=by
 obtain⟨z,hd,vs,rel,dd⟩:=dI I.hok e;refine call_len_dict hd dd (by rw[←rel.length];rw[sizeLine_eq] at z;omega) ?_;rw[←rel.length];exact h _ _ (I.tok _)
end
noncomputable def NoSl(i:Expr):Prop:=∀ov iv,subscripted i false ov iv=operate [ov,iv] (getItem ov iv)
theorem subD_of{T id:String}
  (hl:typeLookup (.type T) "__getitem__"=pure (some (.builtin id))) (hs:NoSl slice)
  (h:wpAny (model prog w) A (eval value env) (λo s₁=>wpAny (model prog w) A (eval slice env) (λi s₂=>s₂.TypeIs o T/\wpAny (model prog w) A (getItem o i) Q E s₂) E s₁) E s):
  wpAny (model prog w) A (eval (.Subscript value slice pos) env) Q E s:=by
 refine Subscript_ (z8 h (λo s₁ h₁=>z8 h₁ (λi s₂ h₂=>?_) λ_ _ x=>x) λ_ _ x=>x);obtain⟨hT,h₂⟩:=h₂;unfold subscriptTail;refine gV ?_;rw[getitemInPython_of_ne hT.not_modules];refine gV (wpAny_specialOf hT hl ?_);have fin:wpAny (model prog w) A (subscripted slice false o i) (λr s₃=>wpAny (model prog w) A (letTemporaryGo value o r>>=λ_=>pure r) Q E s₃) E s₂:=by
  rw[hs o i];exact wpAny_operating (z8 h₂ (λr s₃ h₃=>gV (wpAny_letTemporaryGo (yN h₃))) λ_ _ x=>x)
 first
  |exact yN (gV fin)
  |exact gV (yN (gV fin))
  |exact gV fin
theorem mF(I:Inv X pins σ H s)(g:DGet H a y o):s.TypeIs (.ref a) "dict":=by
 rcases g with⟨kvs,k,e,_,_⟩|⟨kvs,k,b,e,_,_,_⟩
 ·obtain⟨_,_,vs,_,dd⟩:=dI I.hok e
  exact dd.typeIs
 ·obtain⟨_,_,xs,_,dd⟩:=jL I.hok e
  exact dd.typeIs
noncomputable def tDGet(td ty:TE):TE:=λσ H Q=>td σ H λx H1=>ty σ H1 λy H2=>∃a v,x=.ref a/\DGet H2 a y (some v)/\Q v H2
noncomputable def tDIn(ty td:TE):TE:=λσ H Q=>ty σ H λy H1=>td σ H1 λx H2=>∃a o,x=.ref a/\DGet H2 a y o/\Q (.bl o.isSome) H2
noncomputable def tDNotIn(ty td:TE):TE:=λσ H Q=>ty σ H λy H1=>td σ H1 λx H2=>∃a o,x=.ref a/\DGet H2 a y o/\Q (.bl (!o.isSome)) H2
noncomputable def sDPut(td ty tv:TE):TS:=λD σ H=>tv σ H λv H1=>td σ H1 λx H2=>ty σ H2 λy H3=>∃a H4,x=.ref a/\DPut H3 a y v H4/\D.nx σ H4
section
variable{X:Cx}{o i e value:Expr}{pos pos' tpos:Pos}{td ty tv:TE}
theorem pe_dget(hu:X.A.units+1<cLine)(ho:PE X o td)(hi:PE X i ty)(hs:NoSl i):PE X (.Subscript o i pos) (tDGet td ty):=by
 intro pins s σ H Q I h;refine subD_of PySem.F.slot_dict_getitem.lookup hs (thn (ho pins s σ H _ I h) λu s1 ⟨x,H1,I1,rx,q1⟩=>thn (hi pins s1 σ H1 _ I1 q1) λiv s2 ⟨y,H2,I2,ry,a,v,ex,g,q2⟩=>?_);subst ex;obtain rfl:u=Value.ref a:=rx;exact⟨mF I2 g,sP hu I2 g ry λw' s3 I3 rw'=>⟨v,H2,I3,rw',q2⟩⟩
theorem pc_din(hu:X.A.units+1<cLine)(hi:PE X i ty)(ho:PE X o td):PC X .In i o (tDIn ty td):=by
 intro pins s σ H Q I h;refine thn (hi pins s σ H _ I h) λiv s1 ⟨y,H1,I1,ry,q1⟩=>thn (ho pins s1 σ H1 _ I1 q1) λu s2 ⟨x,H2,I2,rx,a,ov,ex,g,q2⟩=>?_;subst ex;obtain rfl:u=Value.ref a:=rx;exact d_in hu I2 g ry λs3 I3=>⟨.bl ov.isSome,H2,I3,rfl,q2⟩
theorem sQ(hu:X.A.units+1<cLine)(hi:PE X i ty)(ho:PE X o td):PC X .NotIn i o (tDNotIn ty td):=by
 intro pins s σ H Q I h;refine thn (hi pins s σ H _ I h) λiv s1 ⟨y,H1,I1,ry,q1⟩=>thn (ho pins s1 σ H1 _ I1 q1) λu s2 ⟨x,H2,I2,rx,a,ov,ex,g,q2⟩=>?_;subst ex;obtain rfl:u=Value.ref a:=rx;exact d_notIn hu I2 g ry λs3 I3=>⟨.bl (!ov.isSome),H2,I3,rfl,q2⟩
theorem ps_dput(hu:X.A.units+1<cLine)(ho:PE X o td)(hi:PE X i ty)(hv:PE X value tv)(hs:swapsWith value (some (.Subscript o i pos')) pos.line X.env=pure false):
  PS X (.Assign [.Subscript o i pos'] value pos) (sDPut td ty tv):=by
 intro pins s σ H D I h;refine wpAny_Assign_Subscript (thn (hv pins s σ H _ I h) λr s1 ⟨v,H1,I1,rv,q1⟩=>thn (ho pins s1 σ H1 _ I1 q1) λu s2 ⟨x,H2,I2,rx,q2⟩=>thn (hi pins s2 σ H2 _ I2 q2) λiv s3 ⟨y,H3,I3,ry,a,H4,ex,g,q3⟩=>?_) hs;subst ex;obtain rfl:u=Value.ref a:=rx;exact jM hu I3 g ry rv λs4 I4=>⟨σ,H4,I4,q3⟩
end
theorem uY(h:Heap)(hb:sysModules<h.objs.size):ObjOk P w H (h.push {cls:=.type "dict",data:=.dict #[]}) h.objs.size (.dK []):=
 ⟨Nat.zero_le _,beq_eq_false_iff_ne.mpr (zL (zP hb)),[],.nil,Heap.DictOf.new h⟩
noncomputable def tDNewK:TE:=λ_ H Q=>∀p,H p=none->Q (.ref p) (upd H p (.dK []))
section
variable{X:Cx}{pos:Pos}
theorem bI:PE X (.Dict [] [] pos) tDNewK:=λpins s σ H Q I h=>
 wpAny_Dict_empty ⟨.ref s.heap.objs.size,_,I.laid (a:=s.heap.objs.size) (o:=.dK []) (t':=s.toks) (λ_ _ q=>yO _ q) (yP _) (uY s.heap I.big),rfl,h _ (I.hok.fresh (yP _))⟩
end
section
variable{X:Cx}{pins:List (Addr×Obj)}{σ:St}{H:Hp}{s:Shared}{a:Addr}{y d:V}{u r:Value}{o:Option V}{A:Around}{E:Value->Shared->Prop}
theorem d_get2(hu:A.units+1<cLine)(I:Inv X pins σ H s)(g:DGet H a y o)(ry:RelV y u)(rd:RelV d r)(h:∀w' s',Inv X pins σ H s'->RelV (o.getD d) w'->Q w' s'):
  wpAny (model X.prog X.w) A (call (.builtin "dict.get") [.ref a,u,r]) Q E s:=by
 rcases g with⟨kvs,k,e,ey,l⟩|⟨kvs,k,b,e,ey,eb,l⟩
 ·subst ey
  obtain⟨z,hd,vs,rel,dd⟩:=dI I.hok e;refine call_meetsIn PySem.F.slot_dict_get dd.typeIs PySem.F.entry_dict_get (PySem.F.args_dict_get_3 _ _ _) (meets_dict_get_default (mixKind X.prog X.w) a (gP ry) hd r) ⟨_,dd.mapOf,h _ _ (I.tok _) ?_⟩;rw[l];exact(rel.val k).getD rd
 ·subst ey
  cases (show u=Value.ref b from ry);obtain⟨z,hd,xs,rel,dd⟩:=jL I.hok e;refine call_meetsIn PySem.F.slot_dict_get dd.typeIs PySem.F.entry_dict_get (PySem.F.args_dict_get_3 _ _ _) (meetsH_dict_get_default (tupleKind (mixKind X.prog X.w)) a b hd r) ⟨tupleKind_room_in1 hu,k,xs,eJ I.hok eb,dd,h _ _ (I.tok _) ?_⟩;rw[l];exact(rel.val k).getD rd
end
end L2
namespace HT
open PySem PyProof.Rows
section
variable{prog:Program}{w:World}{A:Around}{E:Value->Shared->Prop}{s:Shared}
theorem cat_tup(ht:IsTup s.heap t vs.toArray)(hb:IsTup s.heap b ws.toArray)(hv:vs≠[])
  (h1:ws=[]->Q (.ref t) s) (h2:ws≠[]->Q (.ref s.heap.objs.size) {s with heap:=s.heap.push {cls:=.type "tuple",data:=.seq (vs++ws).toArray}})
  (hsz:vs.length+ws.length<=sizeLine):wpAny (model prog w) A (binaryOp .Add (.ref t) (.ref b)) Q E s:=by
 obtain⟨⟨cls,dd,data,sl⟩,ho,hc,n,hd⟩:=id ht;obtain⟨⟨cls2,dd2,data2,sl2⟩,ho2,hc2,n2,hd2⟩:=id hb;simp only at hc hd hc2 hd2;subst hc hd hc2 hd2;have e:vs.toArray++ws.toArray=(vs++ws).toArray:=by simp
 by_cases hw:ws=[]
 ·exact concat_meets ⟨_,ho,rfl⟩ ⟨_,ho2,rfl⟩ noFill_tuple_add seq_tuple_add PySem.F.slot_tuple_add PySem.F.entry_tuple_add (PySem.F.args_tuple_add_2 _ _)
   (tuple_addW1 t b vs.toArray ws.toArray n n2 dd dd2 sl sl2 (by simpa using hv) (by simp[hw])) ⟨ho,ho2,h1 hw⟩
 ·refine concat_meets ⟨_,ho,rfl⟩ ⟨_,ho2,rfl⟩ noFill_tuple_add seq_tuple_add PySem.F.slot_tuple_add PySem.F.entry_tuple_add (PySem.F.args_tuple_add_2 _ _)
   (tuple_addW2 t b vs.toArray ws.toArray n n2 dd dd2 sl sl2 (by simpa using hv) (by simpa using hw) (by rw[yW,yW];exact hsz)) ⟨ho,ho2,?_⟩
  rw[e];exact h2 hw
noncomputable def sIx(n d:Nat):Option Int->Nat
 |none=>d
 |some v=>if v<0 then(v+(n:Int)).toNat else min v.toNat n
theorem sIx_none(n d:Nat):sIx n d none=d:=rfl
theorem sIx_nat(n d k:Nat):sIx n d (some (k:Int))=min k n:=by
 show(if(k:Int)<0 then((k:Int)+(n:Int)).toNat else min (k:Int).toNat n)=min k n;rw[yK (by omega),aAH]
theorem sIx_le(n d:Nat)(hd:d<=n)(o:Option Int):sIx n d o<=n:=by
 cases o with
 |none=>exact hd
 |some v=>
  show(if v<0 then(v+(n:Int)).toNat else min v.toNat n)<=n;by_cases hv:v<0
  ·rw[yM hv];omega
  ·rw[yK hv];exact Nat.min_le_right _ _
theorem qM(v:Int)(n d:Nat):(if v<0 then max (v+(n:Int)) 0 else min v (n:Int))=((sIx n d (some v):Nat):Int):=by
 show(if v<0 then max (v+(n:Int)) 0 else min v (n:Int))=(((if v<0 then(v+(n:Int)).toNat else min v.toNat n):Nat):Int)
 by_cases hv:v<0
 ·simp only[yM hv];omega
 ·simp only[yK hv];omega
theorem oW(lo hi:Option Int)(n:Nat):Builtin.Slice.sliceAdjust lo hi 1 (n:Int)=(((sIx n 0 lo:Nat):Int),((sIx n n hi:Nat):Int)):=by
 have h1:¬((1:Int)<0):=by omega
 unfold Builtin.Slice.sliceAdjust;simp only[h1,yX];refine Prod.ext ?_ ?_
 ·cases lo with
  |none=>rfl
  |some v=>exact qM v n 0
 ·cases hi with
  |none=>rfl
  |some v=>exact qM v n n
theorem oX(i j:Nat):Builtin.Slice.slicePlaces (i:Int) (j:Int) 1=j-i:=by
 unfold Builtin.Slice.slicePlaces;have h1:(1:Int)>0:=by omega
 simp only[h1,yT,Int.ediv_one];split<;>omega
theorem gQ(p:IsPart v o)(h:Q o s):wpAny (model prog w) A (Builtin.Slice.slicePartIndex v) Q E s:=by
 cases p with
 |none=>exact slicePart_none h
 |int i t=>exact slicePart_int h
theorem sliceApplied_gen{lo hi:Option Int}{Q:Int×Int×Nat->Shared->Prop}(hs:s.heap.IsSliceOf sl vl vu .none)(pl:IsPart vl lo)(pu:IsPart vu hi)
  (h:Q (((sIx n 0 lo:Nat):Int),1,sIx n n hi-sIx n 0 lo) s):wpAny (model prog w) A (Builtin.Slice.sliceApplied (.ref sl) (pure (n:Int))) Q E s:=by
 obtain⟨os,hos,hcs,hds⟩:=id hs;unfold Builtin.Slice.sliceApplied Builtin.Slice.sliceFields;refine gV (gV (z7 hos hds (x:=vl) rfl (gV (z7 hos hds (x:=vu) rfl (gV (z7 hos hds (x:=.none) rfl (yN ?_)))))));refine gV (slicePart_none ?_);show wpAny _ _ (if((1:Int)==0)=true then _ else _) _ _ s;rw[yK (by decide)];refine gV (gQ pl (gV (gQ pu (gV (yN ?_)))));show wpAny _ _ (match Builtin.Slice.sliceAdjust lo hi 1 (n:Int) with|(lo,hi)=>pure (lo,(1:Int),Builtin.Slice.slicePlaces lo hi 1)) _ _ s;rw[oW lo hi n];show wpAny _ _ (pure (((sIx n 0 lo:Nat):Int),(1:Int),Builtin.Slice.slicePlaces ((sIx n 0 lo:Nat):Int) ((sIx n n hi:Nat):Int) 1)) _ _ s;rw[oX];exact yN h
theorem uZ(xs:Array Value)(i k:Nat):((List.range k).filterMap λ(m:Nat)=>xs[((i:Int)+(m:Int)*1).toNat]?).toArray=((xs.toList.drop i).take k).toArray:=by
 have e:(λ(m:Nat)=>xs[((i:Int)+(m:Int)*1).toNat]?)=λm=>xs[i+m]?:=by
  funext m;have:((i:Int)+(m:Int)*1).toNat=i+m:=by omega
  rw[this]
 rw[e];have:=pick_run xs i k;rw[List.filterMap_map] at this;have e2:((λx=>xs[x]?)∘λx=>i+x)=λm=>xs[i+m]?:=rfl;rw[e2] at this;rw[this]
theorem getItem_tuple_cut{lo hi:Option Int}(ht:IsTup s.heap t items)(hs:s.heap.IsSliceOf sl vl vu .none)(pl:IsPart vl lo)(pu:IsPart vu hi)
  (hw:¬(sIx items.size 0 lo=0/\sIx items.size items.size hi=items.size))
  (h:Q (.ref s.heap.objs.size) {s with heap:=s.heap.push {cls:=.type "tuple",data:=.seq ((items.toList.drop (sIx items.size 0 lo)).take (sIx items.size items.size hi-sIx items.size 0 lo)).toArray}})
  (hsz:items.size<=sizeLine):wpAny (model prog w) A (getItem (.ref t) (.ref sl)) Q E s:=by
 have htake:sizeOk (.seq ((items.toList.drop (sIx items.size 0 lo)).take (sIx items.size items.size hi-sIx items.size 0 lo)).toArray):=by
  show((items.toList.drop (sIx items.size 0 lo)).take (sIx items.size items.size hi-sIx items.size 0 lo)).toArray.size<=sizeLine;rw[yW,zO,aAP,Array.length_toList];omega
 have hj:sIx items.size items.size hi<=items.size:=sIx_le _ _ (yP _) hi;obtain⟨os,hos,hcs,hds⟩:=id hs;have hTs:s.TypeIs (.ref sl) "slice":=⟨os,hos,hcs⟩
 unfold getItem
 try with_reducible refine wpAny_holding ?_
 first|refine gV (yN ?_)|skip
 refine gV (wpAny_sequenceKey ht.typeIs (by decide) ?_);refine gV (aAF (name:=Str.ofString "__getitem__") ht.typeIs PyProof.Rows.slot_tuple_getitem
  (zZ PyProof.Rows.slot_tuple_getitem ht.typeIs entry_tuple_getitem ?_ (args_tuple_getitem _ _)))
 show wpAny _ _ (Builtin.Tuple.tupleItemsOf (.ref t)>>=_) _ _ s;refine gV (tupleItemsOf_ ht ?_);refine gV (wpAny_typeOf hTs ?_);rw[yM (by decide)];refine gV (sliceApplied_gen hs pl pu ?_);have hno:¬((((sIx items.size 0 lo:Nat):Int)==0&&(1:Int)==1&&(sIx items.size items.size hi-sIx items.size 0 lo)==items.size)=true):=by
  intro q;rw[yU,yU] at q;have q1:((sIx items.size 0 lo:Nat):Int)=0:=eq_of_beq q.1.1;have q2:sIx items.size items.size hi-sIx items.size 0 lo=items.size:=eq_of_beq q.2;exact hw ⟨by omega,by omega⟩
 show wpAny _ _ (if(((sIx items.size 0 lo:Nat):Int)==0&&(1:Int)==1&&(sIx items.size items.size hi-sIx items.size 0 lo)==items.size)=true then _ else _) _ _ s;rw[yK hno,uZ]
 first
  |exact gV (m:=Builtin.Tuple.tupleExact _) (aAB (yN ⟨_,rfl,yN h⟩) htake)
  |exact gV (m:=Builtin.Tuple.tupleExact _) (aAB (gV (yN (yN ⟨_,rfl,yN h⟩))) htake)
  |exact gV (gV (m:=Builtin.Tuple.tupleExact _) (aAB (yN (yN ⟨_,rfl,yN h⟩)) htake))
  |exact gV (gV (m:=Builtin.Tuple.tupleExact _) (aAB (yN ⟨_,rfl,yN h⟩) htake))
end
end HT
namespace L2
open PySem PySem.Spec PyProof.Rows
noncomputable abbrev TO:=St->Hp->(Option Int->Hp->Prop)->Prop
noncomputable def PO(X:Cx)(e:Option Expr)(t:TO):Prop:=
 ∀(pins:List (Addr×Obj))(s:Shared)(σ:St)(H:Hp)(Q:Option Int->Hp->Prop),Inv X pins σ H s->t σ H Q->
  wpAny (model X.prog X.w) X.A (evalPart e X.env) (λu s'=>∃o H',Inv X pins σ H' s'/\IsPart u o/\Q o H') X.xe s
noncomputable def tNoPart:TO:=λ_ H Q=>Q none H
noncomputable def tPart(t:TE):TO:=λσ H Q=>t σ H λx H1=>∃i,x=.int i/\Q (some i) H1
section
variable{X:Cx}{e:Expr}{te:TE}{lo hi:Option Expr}{tl th:TO}{pos p2:Pos}
theorem qN:PO X none tNoPart:=by
 intro pins s σ H Q I h;rw[evalPart_none];exact yN ⟨none,H,I,.none,h⟩
theorem qO(h:PE X e te):PO X (some e) (tPart te):=by
 intro pins s σ H Q I hw;rw[evalPart_some];refine thn (h pins s σ H _ I hw) λu s1 ⟨x,H1,I1,r1,q1⟩=>?_;obtain⟨i,rfl,q⟩:=q1;obtain⟨t,rfl⟩:=r1;exact⟨some i,H1,I1,.int i t,q⟩
noncomputable def SlR(X:Cx)(r:V->Option Int->Option Int->Hp->VK->Prop):Prop:=
 ∀(pins:List (Addr×Obj))(s:Shared)(σ:St)(H:Hp)(x:V)(v vl vu:Value)(lo hi:Option Int)(sl:Addr)(Q:VK),Inv X pins σ H s->RelV x v->s.heap.IsSliceOf sl vl vu .none->IsPart vl lo->IsPart vu hi->r x lo hi H Q->
  ∃T id,typeLookup (.type T) "__getitem__"=pure (some (.builtin id))/\s.TypeIs v T/\wpAny (model X.prog X.w) X.A (getItem v (.ref sl)) (EP X pins σ Q) X.xe s
theorem SlR.or(h:SlR X r)(h':SlR X r'):SlR X (λx lo hi H Q=>r x lo hi H Q\/r' x lo hi H Q):=by
 intro pins s σ H x v vl vu lo hi sl Q I rx hs pl pu q;rcases q with q|q
 ·exact h pins s σ H x v vl vu lo hi sl Q I rx hs pl pu q
 ·exact h' pins s σ H x v vl vu lo hi sl Q I rx hs pl pu q
noncomputable def tSl(r:V->Option Int->Option Int->Hp->VK->Prop)(te:TE)(tl th:TO):TE:=λσ H Q=>te σ H λx H1=>tl σ H1 λl H2=>th σ H2 λu H3=>r x l u H3 Q
theorem mG(hr:SlR X r)(he:PE X e te)(hl:PO X lo tl)(hu:PO X hi th):PE X (.Subscript e (.Slice lo hi none p2) pos) (tSl r te tl th):=by
 intro pins s σ H Q I h;refine Subscript_ (thn (he pins s σ H _ I h) λv s1 ⟨x,H1,I1,r1,q1⟩=>?_);refine wpAny_Slice (thn (hl pins s1 σ H1 _ I1 q1) λvl s2 ⟨l,H2,I2,pl,q2⟩=>thn (hu pins s2 σ H2 _ I2 q2) λvu s3 ⟨u,H3,I3,pu,q3⟩=>?_);rw[evalPart_none];refine yN ?_;have I4:Inv X pins σ H3 {s3 with heap:=s3.heap.push {cls:=.type "slice",data:=.fields #[vl,vu,.none]}}:=I3.kept (t':=s3.toks) λb ob q=>yO _ q;obtain⟨T,id,hT,ht,hg⟩:=hr pins {s3 with heap:=s3.heap.push {cls:=.type "slice",data:=.fields #[vl,vu,.none]}} σ H3 x v vl vu l u s3.heap.objs.size Q I4 r1 (Heap.IsSliceOf.new ..) pl pu q3;show wpAny (model X.prog X.w) X.A (subscriptTail e (.Slice lo hi none p2) v (.ref s3.heap.objs.size)) (EP X pins σ Q) X.xe {s3 with heap:=s3.heap.push {cls:=.type "slice",data:=.fields #[vl,vu,.none]}};exact tail_any (ops:=[.ref s3.heap.objs.size,v]) ht hT hg (by with_unfolding_all rfl)
noncomputable def cutV(xs:List V)(lo hi:Option Int):List V:=(xs.drop (HT.sIx xs.length 0 lo)).take (HT.sIx xs.length xs.length hi-HT.sIx xs.length 0 lo)
theorem fF(xs:List V)(lo hi:Option Int):(cutV xs lo hi).length<=xs.length:=by
 unfold cutV;rw[zO,aAP];omega
noncomputable def rSlT(K:PySem.W.Frag):V->Option Int->Option Int->Hp->VK->Prop:=λx lo hi H Q=>∃a xs,x=.ref a/\SqT K H a xs/\
 ¬(HT.sIx xs.length 0 lo=0/\HT.sIx xs.length xs.length hi=xs.length)/\∀p,H p=none->Q (.ref p) (upd H p (.tup (cutV xs lo hi)))
theorem sl_tup:SlR X (rSlT X.K):=by
 intro pins s σ H x v vl vu lo hi sl Q I rx hs pl pu h;obtain⟨a,xs,rfl,hx,hw,q⟩:=h;cases rx;obtain⟨its,r,ht,hz⟩:=I.tuple hx;have hlen:its.toArray.size=xs.length:=by rw[yW];exact r.length.symm
 refine⟨"tuple",_,PyProof.Rows.slot_tuple_getitem.lookup,ht.typeIs,?_⟩;refine HT.getItem_tuple_cut ht hs pl pu (by rw[hlen];exact hw) ?_ (by rw[hlen];exact hz);rw[hlen];refine⟨.ref s.heap.objs.size,_,I.laid (t':=s.toks) (o:=.tup (cutV xs lo hi)) (λb ob q=>yO _ q) (yP _) ?_,rfl,q _ (I.hok.fresh (yP _))⟩;exact⟨zB (fF xs lo hi) hz,_,(r.drop (HT.sIx xs.length 0 lo)).take (HT.sIx xs.length xs.length hi-HT.sIx xs.length 0 lo),IsTup.new _ _⟩
noncomputable def rCatT(K:PySem.W.Frag):R2:=λx y H Q=>∃a b xs ys,x=.ref a/\y=.ref b/\SqT K H a xs/\SqT K H b ys/\xs≠[]/\xs.length+ys.length<=sizeLine/\
 (ys=[]->Q (.ref a) H)/\(ys≠[]->∀p,H p=none->Q (.ref p) (upd H p (.tup (xs++ys))))
theorem Vals.nil_iff(r:Vals xs us):us=[]↔xs=[]:=by
 cases r with
 |nil=>simp
 |cons _ _=>simp
theorem op_catT:OpR X (binaryOp .Add) (rCatT X.K):=by
 intro pins s σ H x y v u Q I rx ry h;obtain⟨a,b,xs,ys,rfl,rfl,ha,hb,hx,hz,q1,q2⟩:=h;cases rx;cases ry;obtain⟨its,r1,p1,_⟩:=I.tuple ha;obtain⟨its2,r2,p2,_⟩:=I.tuple hb;refine HT.cat_tup p1 p2 (λz=>hx (r1.nil_iff.mp z)) (λz=>⟨.ref a,H,I,rfl,q1 (r2.nil_iff.mp z)⟩) (λz=>?_) (by rw[←r1.length,←r2.length];exact hz);refine⟨.ref s.heap.objs.size,_,I.laid (t':=s.toks) (o:=.tup (xs++ys)) (λb ob q=>yO _ q) (yP _) ?_,rfl,q2 (λw=>z (r2.nil_iff.mpr w)) _ (I.hok.fresh (yP _))⟩;exact⟨by rw[yY];exact hz,_,r1.append r2,IsTup.new _ _⟩
end
noncomputable def ixN(n:Nat)(i:Int):Option Nat:=if 0<=i then(if i<n then some i.toNat else none) else if-(n:Int)<=i then some (i+n).toNat else none
noncomputable def atI{α:Type}(xs:List α)(i:Int):Option α:=(ixN xs.length i).bind λj=>xs[j]?
theorem qP(h:ixN n i=some j):seqIndex? i n=some j/\j<n/\-(n:Int)<=i/\i<n:=by
 unfold ixN at h;by_cases h0:0<=i
 ·rw[yM h0] at h
  by_cases h1:i<n
  ·rw[yM h1] at h
   have e:i.toNat=j:=y8 h;exact⟨by rw[seqIndex_of h0 h1,e],by omega,by omega,h1⟩
  ·rw[yK h1] at h;cases h
 ·rw[yK h0] at h
  by_cases h1: -(n:Int)<=i
  ·rw[yM h1] at h
   have e:(i+n).toNat=j:=y8 h;exact⟨by rw[seqIndex_neg (by omega) h1,e],by omega,h1,by omega⟩
  ·rw[yK h1] at h;cases h
theorem qR{α:Type}{xs:List α}{i:Int}{v:α}(h:atI xs i=some v):∃j,seqIndex? i xs.length=some j/\xs[j]?=some v/\j<xs.length/\-(xs.length:Int)<=i/\i<xs.length:=by
 unfold atI at h
 cases e:ixN xs.length i with
 |none=>rw[e] at h;cases h
 |some j=>
  rw[e] at h;obtain⟨h1,h2,h3,h4⟩:=qP e;exact⟨j,h1,h,h2,h3,h4⟩
noncomputable def PlainIx(b:Expr):Prop:=∀o i,subscripted b false o i=operate [o,i] (getItem o i)
noncomputable def IxR(X:Cx)(r:R2):Prop:=
 ∀(value slice:Expr)(pins:List (Addr×Obj))(s:Shared)(σ:St)(H:Hp)(x y:V)(v u:Value)(Q:VK),Inv X pins σ H s->RelV x v->RelV y u->r x y H Q->
  subscripted slice false v u=operate [v,u] (getItem v u)->wpAny (model X.prog X.w) X.A (subscriptTail value slice v u) (EP X pins σ Q) X.xe s
noncomputable def MtR(X:Cx)(id:String)(r:V->List V->Hp->VK->Prop):Prop:=
 ∀(pins:List (Addr×Obj))(s:Shared)(σ:St)(H:Hp)(x:V)(xs:List V)(v:Value)(us:List Value)(Q:VK),Inv X pins σ H s->RelV x v->Vals xs us->r x xs H Q->
  wpAny (model X.prog X.w) X.A (call (.builtin id) (v::us)) (EP X pins σ Q) X.xe s
section
variable{X:Cx}{a b:Expr}{ta tb:TE}{pos:Pos}
theorem IxR.or(h:IxR X r)(h':IxR X r'):IxR X (λx y H Q=>r x y H Q\/r' x y H Q):=by
 intro value slice pins s σ H x y v u Q I rx ry q hs;rcases q with q|q
 ·exact h value slice pins s σ H x y v u Q I rx ry q hs
 ·exact h' value slice pins s σ H x y v u Q I rx ry q hs
theorem u0(hr:IxR X r)(ha:PE X a ta)(hb:PE X b tb)(hs:PlainIx b):PE X (.Subscript a b pos) (tOp r ta tb):=by
 intro pins s σ H Q I h;exact Subscript_ (binT ha hb I h λv u s2 x y H2 I2 rx ry q=>hr a b pins s2 σ H2 x y v u Q I2 rx ry q (hs _ _))
noncomputable def rIxL(K:PySem.W.Frag):R2:=λx y H Q=>∃p xs i v,x=.ref p/\y=.int i/\SqL K H p xs/\atI xs i=some v/\Q v H
noncomputable def rIxT(K:PySem.W.Frag):R2:=λx y H Q=>∃p xs i v,x=.ref p/\y=.int i/\SqT K H p xs/\atI xs i=some v/\Q v H
theorem ix_list:IxR X (rIxL X.K):=by
 intro value slice pins s σ H x y v u Q I rx ry h hs;obtain⟨p,xs,i,z,rfl,rfl,hq,he,q⟩:=h;cases rx;obtain⟨t,rfl⟩:=ry;obtain⟨its,r,pl,hz⟩:=I.list hq;obtain⟨j,h1,h2,h3,h4,h5⟩:=qR he;obtain⟨w,ew,rw'⟩:=r.get h2;have hl:=r.length;have hn:=line63;have fin:EP X pins σ Q w s:=⟨z,H,I,rw',q⟩
 by_cases h0:0<=i
 ·have hj:i.toNat=j:=by
   rw[seqIndex_of h0 h5] at h1;exact y8 h1
  exact item_listR pl.isList h0 (by omega) (by rw[hj];simpa using ew) fin hs
 ·have hj:(i+(its.toArray.size:Int)).toNat=j:=by
   rw[seqIndex_neg (by omega) h4] at h1;rw[yW,←hl];exact y8 h1
  exact subscriptTail_builtinR (x:=w) pl.isList.typeIs slot_list_getitem.lookup
   (wpAny_getItem_list_neg (Q:=λr s'=>r=w/\EP X pins σ Q r s') pl.isList (by omega) (by rw[yW]<;>omega) (by omega) (by rw[hj];simpa using ew) ⟨rfl,fin⟩) hs
theorem u8:IxR X (rIxT X.K):=by
 intro value slice pins s σ H x y v u Q I rx ry h hs;obtain⟨p,xs,i,z,rfl,rfl,hq,he,q⟩:=h;cases rx;obtain⟨t,rfl⟩:=ry;obtain⟨its,r,pl,hz⟩:=I.tuple hq;obtain⟨j,h1,h2,h3,h4,h5⟩:=qR he;obtain⟨w,ew,rw'⟩:=r.get h2;have hl:=r.length;have hn:=line63;have fin:EP X pins σ Q w s:=⟨z,H,I,rw',q⟩
 exact subscriptTail_builtinR (x:=w) pl.typeIs slot_tuple_getitem.lookup
  (getItem_tuple (j:=j) (Q:=λr s'=>r=w/\EP X pins σ Q r s') pl (by omega) (by omega) (by rw[yW,←hl];exact h1) (by simpa using ew) ⟨rfl,fin⟩) hs
theorem oY(its:List Value)(n j:Nat)(u:Value):Obj.mapSeq (·.setIfInBounds j u) {cls:=.type "list",data:=.seq its.toArray n}={cls:=.type "list",data:=.seq (its.set j u).toArray n}:=by
 simp[Obj.mapSeq]
theorem Inv.lst(I:Inv X pins σ H s)(h:H p=some (.lst xs)):
  ∃(its:List Value)(n:Nat),Vals xs its/\s.heap.get? p=some {cls:=.type "list",data:=.seq its.toArray n}/\xs.length<=sizeLine:=by
 obtain⟨z,its,n,r,e⟩:=I.hok p _ h;exact⟨its,n,r,e,z⟩
theorem Inv.lstUpd{pins:List (Addr×Obj)}{σ:St}{H:Hp}{s:Shared}{p:Addr}{xs ys:List V}{its its':List Value}{n n':Nat}{f:Obj->Obj}(I:Inv X pins σ H s)(h:H p=some (.lst xs))
  (ho:s.heap.get? p=some {cls:=.type "list",data:=.seq its.toArray n}) (hf:f {cls:=.type "list",data:=.seq its.toArray n}={cls:=.type "list",data:=.seq its'.toArray n'}) (r:Vals ys its') (hz:ys.length<=sizeLine) (t:Nat):
  Inv X pins σ (upd H p (.lst ys)) {s with heap:=s.heap.update p f,toks:=t}:=by
 have e:(s.heap.update p f).get? p=some {cls:=.type "list",data:=.seq its'.toArray n'}:=by
  rw[Heap.get?_update_self f ho (by rw[hf]<;>rfl),hf]
 refine I.write (x:=p) (e:=p) (by rw[h];trivial) (.inl rfl) (λb u hb q=>(aAC _ _ (zL hb)).trans q) ⟨_,e⟩ ?_;exact⟨hz,its',n',r,e⟩
noncomputable def rSetL:V->V->V->Hp->(Hp->Prop)->Prop:=λo i v H Q=>∃p xs k j,o=.ref p/\i=.int k/\H p=some (.lst xs)/\ixN xs.length k=some j/\Q (upd H p (.lst (xs.set j v)))
theorem mH:PSet X rSetL:=by
 intro pins s σ H o i v ov iv u Q I ro ri rv h;obtain⟨p,xs,k,j,rfl,rfl,hp,hj,q⟩:=h;cases ro;obtain⟨t,rfl⟩:=ri;obtain⟨its,n,r,ho,hz⟩:=I.lst hp;obtain⟨h1,h2,h3,h4⟩:=qP hj;have hl:=r.length;have hn:=line63;have I':Inv X pins σ (upd H p (.lst (xs.set j v))) {s with heap:=s.heap.update p (Obj.mapSeq (·.setIfInBounds j u))}:=
  I.lstUpd hp ho (oY its n j u) (r.set rv j) (by rw[List.length_set];exact hz) s.toks
 by_cases h0:0<=k
 ·have hk:k.toNat=j:=by
   rw[seqIndex_of h0 h4] at h1;exact y8 h1
  exact PySem.W.ki_setAt ho h0 (by omega) (by rw[yW,←hl];exact h4) (by rw[hk];exact⟨_,I',q⟩)
 ·have hk:(k+(its.toArray.size:Int)).toNat=j:=by
   rw[seqIndex_neg (by omega) h3] at h1;rw[yW,←hl];exact y8 h1
  exact PySem.W.ki_setBack ho (by omega) (by rw[yW,←hl];exact h3) (by omega) (by rw[hk];exact⟨_,I',q⟩)
theorem kT(lo hi:Option Int)(n:Nat):(sliceBounds lo hi none n).1=((HT.sIx n 0 lo:Nat):Int)/\(sliceBounds lo hi none n).2.1=((HT.sIx n n hi:Nat):Int)/\(sliceBounds lo hi none n).2.2=1:=by
 refine⟨?_,?_,rfl⟩
 ·cases lo with
  |none=>simp[sliceBounds,HT.sIx]
  |some i=>
   simp only[sliceBounds,HT.sIx,Option.getD_none,show(1:Int)>0 by decide,yT];by_cases h:i<0
   ·simp only[h,yT]<;>omega
   ·simp only[h,yX]<;>omega
 ·cases hi with
  |none=>simp[sliceBounds,HT.sIx]
  |some i=>
   simp only[sliceBounds,HT.sIx,Option.getD_none,show(1:Int)>0 by decide,yT];by_cases h:i<0
   ·simp only[h,yT]<;>omega
   ·simp only[h,yX]<;>omega
theorem i9(its:List Value)(lo hi:Option Int):slicePick its.toArray lo hi none=((its.drop (HT.sIx its.length 0 lo)).take (HT.sIx its.length its.length hi-HT.sIx its.length 0 lo)).toArray:=by
 obtain⟨h1,h2,h3⟩:=kT lo hi its.toArray.size;unfold slicePick;rw[h1,h2,h3];simp only[sliceRange_one,pick_run,yW]<;>rfl
noncomputable def rSlL(K:PySem.W.Frag):V->Option Int->Option Int->Hp->VK->Prop:=λx lo hi H Q=>∃a xs,x=.ref a/\SqL K H a xs/\∀p,H p=none->Q (.ref p) (upd H p (.lst (cutV xs lo hi)))
theorem sl_list:SlR X (rSlL X.K):=by
 intro pins s σ H x v vl vu lo hi sl Q I rx hs pl pu h;obtain⟨a,xs,rfl,hx,q⟩:=h;cases rx;obtain⟨its,r,ht,hz⟩:=I.list hx;have hlen:=r.length;refine⟨"list",_,slot_list_getitem.lookup,ht.isList.typeIs,?_⟩;refine wpAny_getItem_list_slice ht.isList hs pl pu .none (by simp) ?_ (by rw[yW]<;>omega);rw[i9,←hlen];refine⟨.ref s.heap.objs.size,_,I.laid (t':=s.toks) (o:=.lst (cutV xs lo hi)) (λb ob q=>yO _ q) (yP _) ?_,rfl,q _ (I.hok.fresh (yP _))⟩;exact⟨zB (fF xs lo hi) hz,_,0,(r.drop (HT.sIx xs.length 0 lo)).take (HT.sIx xs.length xs.length hi-HT.sIx xs.length 0 lo),y9 _ rfl⟩
noncomputable def flatV:V->Bool
 |.non=>true
 |.bl _=>true
 |.int _=>true
 |.str _=>true
 |_=>false
noncomputable def eqV:V->V->Bool
 |.non,.non=>true
 |.bl a,.bl b=>a==b
 |.bl a,.int b=>(if a then 1 else 0)==b
 |.int a,.bl b=>a==(if b then 1 else 0)
 |.int a,.int b=>a==b
 |.str a,.str b=>a==b
 |_,_=>false
theorem aR(ry:RelV y u)(rx:RelV x v)(fy:flatV y=true)(fx:flatV x=true):SeqAt.EqAt A s u v (eqV y x):=by
 cases y with
 |non=>
  cases ry
  cases x with
  |non=>cases rx;exact SeqAt.EqAt.same _
  |bl b=>cases rx;exact SeqAt.EqAt.none_bool b
  |int b=>obtain⟨t,rfl⟩:=rx;exact SeqAt.EqAt.none_int b t
  |str b=>obtain⟨t,rfl⟩:=rx;exact SeqAt.EqAt.none_str b t
  |_=>exact absurd (show false=true from fx) yL
 |bl a=>
  cases ry
  cases x with
  |non=>cases rx;exact SeqAt.EqAt.bool_none a
  |bl b=>cases rx;exact SeqAt.EqAt.bool_bool a b
  |int b=>obtain⟨t,rfl⟩:=rx;exact SeqAt.EqAt.bool_int a b t
  |str b=>obtain⟨t,rfl⟩:=rx;exact SeqAt.EqAt.bool_str a b t
  |_=>exact absurd (show false=true from fx) yL
 |int a=>
  obtain⟨t',rfl⟩:=ry
  cases x with
  |non=>cases rx;exact SeqAt.EqAt.int_none a t'
  |bl b=>cases rx;exact SeqAt.EqAt.int_bool a t' b
  |int b=>obtain⟨t,rfl⟩:=rx;exact SeqAt.EqAt.int_int a t' b t
  |str b=>obtain⟨t,rfl⟩:=rx;exact SeqAt.EqAt.int_str a t' b t
  |_=>exact absurd (show false=true from fx) yL
 |str a=>
  obtain⟨t',rfl⟩:=ry
  cases x with
  |non=>cases rx;exact SeqAt.EqAt.str_none a t'
  |bl b=>cases rx;exact SeqAt.EqAt.str_bool a t' b
  |int b=>obtain⟨t,rfl⟩:=rx;exact SeqAt.EqAt.str_int a t' b t
  |str b=>obtain⟨t,rfl⟩:=rx;exact SeqAt.EqAt.str_str a t' b t
  |_=>exact absurd (show false=true from fx) yL
 |_=>exact absurd (show false=true from fy) yL
noncomputable def eqU(x:V)(u:Value):Bool:=match u with
 |.none=>eqV .non x
 |.bool b=>eqV (.bl b) x
 |.int i _=>eqV (.int i) x
 |.str z _=>eqV (.str z) x
 |_=>false
theorem oZ(r:RelV y u)(f:flatV y=true):eqU x u=eqV y x:=by
 cases y with
 |non=>cases r;rfl
 |bl b=>cases r;rfl
 |int i=>obtain⟨t,rfl⟩:=r;rfl
 |str z=>obtain⟨t,rfl⟩:=r;rfl
 |_=>exact absurd (show false=true from f) yL
theorem kU:∀{xs:List V}{us:List Value},Vals xs us->xs.all flatV=true->us.any (eqU x)=xs.any λy=>eqV y x
 |_,_,.nil,_=>rfl
 |y::xs,u::us,.cons r t,f=>by
  rw[List.all_cons,yU] at f;rw[List.any_cons,List.any_cons,oZ r f.1,kU t f.2]
theorem dL(rx:RelV x v)(fx:flatV x=true):∀{xs:List V}{us:List Value},Vals xs us->xs.all flatV=true->∀u∈us,SeqAt.EqAt A s u v (eqU x u)
 |_,_,.nil,_=>λu hu=>by cases hu
 |y::xs,u::us,.cons r t,f=>λu' hu=>by
  rw[List.all_cons,yU] at f;rcases List.mem_cons.mp hu with rfl|hu
  ·rw[oZ r f.1];exact aR r rx f.1 fx
  ·exact dL rx fx t f.2 u' hu
noncomputable def inV(x:V)(xs:List V):Bool:=xs.any λy=>eqV y x
noncomputable def rIn(K:PySem.W.Frag)(neg:Bool):R2:=λx y H Q=>∃p xs,y=.ref p/\(SqL K H p xs\/SqT K H p xs)/\flatV x=true/\xs.all flatV=true/\Q (.bl (if neg then !inV x xs else inV x xs)) H
theorem kW:OpR X (compareOp .NotIn) (rIn X.K true):=by
 intro pins s σ H x y v u Q I rx ry h;obtain⟨p,xs,rfl,hq,fx,fs,q⟩:=h;cases ry;rcases hq with hq|hq
 ·obtain⟨its,r,pl,hz⟩:=I.list hq
  refine SeqAt.notIn_listAt (eqU x) pl.isList (λw hw=>dL rx fx r fs w (by simpa using hw)) ⟨.bl _,H,I,rfl,?_⟩;rw[show its.toArray.any (eqU x)=its.any (eqU x) by simp,kU r fs];exact q
 ·obtain⟨its,r,pl,hz⟩:=I.tuple hq
  refine SeqAt.notIn_tupleAt (eqU x) pl (λw hw=>dL rx fx r fs w (by simpa using hw)) ⟨.bl _,H,I,rfl,?_⟩;rw[show its.toArray.any (eqU x)=its.any (eqU x) by simp,kU r fs];exact q
theorem dM:CallR X (.builtin "len") (λxs H Q=>∃p ys,xs=[.ref p]/\(SqL X.K H p ys\/SqT X.K H p ys)/\Q (.int ys.length) H):=by
 intro pins s σ H xs us Q I r h;obtain⟨p,ys,rfl,hq,q⟩:=h;obtain⟨u,rfl,rx⟩:=vals1 r;cases rx;have hn:=line63;rcases hq with hq|hq
 ·obtain⟨its,r',pl,hz⟩:=I.list hq
  have hlen:=r'.length;exact Calls.call_len_list pl.isList (by simp only[yW]<;>omega) ⟨.int ys.length,H,I.tok _,⟨s.toks+1,by rw[yW,hlen]⟩,q⟩
 ·obtain⟨its,r',pl,hz⟩:=I.tuple hq
  have hlen:=r'.length;exact len_tuple pl (by simp only[yW]<;>omega) ⟨.int ys.length,H,I.tok _,⟨s.toks+1,by rw[yW,hlen]⟩,q⟩
theorem dO:CallR X (.type "list") (λxs H Q=>∃p ys,xs=[.ref p]/\(SqL X.K H p ys\/SqT X.K H p ys)/\∀l,H l=none->Q (.ref l) (upd H l (.lst ys))):=by
 intro pins s σ H xs us Q I r h;obtain⟨p,ys,rfl,hq,q⟩:=h;obtain⟨u,rfl,rx⟩:=vals1 r;cases rx;have fin:∀(its:List Value),Vals ys its->ys.length<=sizeLine->∀(h':Heap)(c':Nat),(∀b o',s.heap.get? b=some o'->h'.get? b=some o')->
   h'.get? s.heap.objs.size=some {cls:=.type "list",dict:=none,data:=.seq its.toArray c',slots:= #[]}->EP X pins σ Q (.ref s.heap.objs.size) {s with heap:=h'}:=λits r' hz h' c' kp e=>
  ⟨.ref s.heap.objs.size,_,I.laid (t':=s.toks) kp (yP _) (show ObjOk X.prog X.w _ h' _ (.lst ys) from⟨hz,its,c',r',e⟩),rfl,q _ (I.hok.fresh (yP _))⟩
 rcases hq with hq|hq
 ·obtain⟨its,r',pl,hz⟩:=I.list hq
  have hlen:=r'.length;obtain⟨o,ho,hc,n,hd⟩:=pl.isList;exact call_list_seq p (.inl rfl) ho hc hd (λh' c' kp e=>fin its r' hz h' c' kp e) (by simp only[yW]<;>omega)
 ·obtain⟨its,r',pl,hz⟩:=I.tuple hq
  have hlen:=r'.length;obtain⟨o,ho,hc,n,hd⟩:=pl;exact call_list_seq p (.inr rfl) ho hc hd (λh' c' kp e=>fin its r' hz h' c' kp e) (by simp only[yW]<;>omega)
theorem jA:CallR X (.type "tuple") (λxs H Q=>∃p ys,xs=[.ref p]/\((SqL X.K H p ys/\∀l,H l=none->Q (.ref l) (upd H l (.tup ys)))\/(SqT X.K H p ys/\Q (.ref p) H))):=by
 intro pins s σ H xs us Q I r h;obtain⟨p,ys,rfl,h⟩:=h;obtain⟨u,rfl,rx⟩:=vals1 r;cases rx;rcases h with⟨hq,q⟩|⟨hq,q⟩
 ·obtain⟨its,r',pl,hz⟩:=I.list hq
  have hlen:=r'.length;refine call_tuple_list pl.isList (λh' kp=>?_) (by simp only[yW]<;>omega);have I1:Inv X pins σ H {s with heap:=h'}:=I.kept (t':=s.toks) kp;have I2:Inv X pins σ (upd H h'.objs.size (.tup ys)) {s with heap:=h'.push {cls:=.type "tuple",data:=.seq its.toArray}}:=
   I1.laid (t':=s.toks) (λb o e=>yO _ e) (yP _) (show ObjOk X.prog X.w _ _ _ (.tup ys) from⟨hz,its,r',IsTup.new _ _⟩)
  exact⟨.ref h'.objs.size,_,I2,rfl,q _ (I1.hok.fresh (yP _))⟩
 ·obtain⟨its,r',pl,hz⟩:=I.tuple hq
  exact call_tuple_same pl ⟨.ref p,H,I,rfl,q⟩
noncomputable def tyV(K:PySem.W.Frag)(T:String)(x:V)(H:Hp):Prop:=match x with
 |.str _=>T="str"
 |.int _=>T="int"
 | .ref p=>(T="list"/\∃xs,SqL K H p xs)\/(T="tuple"/\∃o,K.lookup p=some o/\o.cls=.type "tuple"/\o.dict=none)\/
   (T="dict"/\((∃kvs,H p=some (.dK kvs))\/∃kvs,H p=some (.dT kvs)))\/(T="set"/\∃S n,H p=some (.set S n))
 |_=>False
theorem tyV_is(I:Inv X pins σ H s)(r:RelV x v)(ty:tyV X.K T x H):
  s.TypeIs v T/\∀a,v=.ref a->∃ob,s.heap.get? a=some ob/\ob.dict=none:=by
 cases x with
 |str z=>
  obtain⟨t,rfl⟩:=r;cases (show T="str" from ty);exact⟨typeIs_str s z t,λ_ e=>nomatch e⟩
 |int i=>
  obtain⟨t,rfl⟩:=r;cases (show T="int" from ty);exact⟨typeIs_int s i t,λ_ e=>nomatch e⟩
 |ref p=>
  cases r;rcases ty with⟨rfl,xs,hq⟩|⟨rfl,o,hk,hc,hd⟩|⟨rfl,hk⟩|⟨rfl,S,n,hk⟩
  ·obtain⟨its,_,pl,_⟩:=I.list hq
   refine⟨pl.isList.typeIs,λa e=>?_⟩;cases e;obtain⟨o,n,e,c,hd,_⟩:=pl;exact⟨o,e,hd⟩
  ·refine⟨⟨o,I.kIn p o hk,hc⟩,λa e=>?_⟩
   cases e;exact⟨o,I.kIn _ o hk,hd⟩
  ·have z:∃o,s.heap.get? p=some o/\o.ExactDict:=by
    rcases hk with⟨kvs,hk⟩|⟨kvs,hk⟩
    ·obtain⟨_,_,_,_,o,_,_,e,ex,_⟩:=I.hok p _ hk
     exact⟨o,e,ex⟩
    ·obtain⟨_,_,_,_,o,_,_,e,ex,_⟩:=I.hok p _ hk
     exact⟨o,e,ex⟩
   obtain⟨o,e,ex⟩:=z;refine⟨⟨o,e,ex.1⟩,λa e2=>?_⟩;cases e2;exact⟨o,e,ex.2.1⟩
  ·obtain⟨o,_,_,_,e,ex,_⟩:=I.hok p _ hk
   refine⟨⟨o,e,ex.1⟩,λa e2=>?_⟩;cases e2;exact⟨o,e,ex.2.1⟩
 |_=>exact False.elim ty
noncomputable def tBM(K:PySem.W.Frag)(T:String)(r:V->List V->Hp->VK->Prop)(to:TE)(t:TA):TE:=λσ H Q=>to σ H λx H1=>tyV K T x H1/\t σ H1 λxs H2=>r x xs H2 Q
variable{o e:Expr}{es:List Expr}{to:TE}{t:TA}{name:Str}{apos cpos:Pos}{T id:String}{r:V->List V->Hp->VK->Prop}
theorem pe_bm(pa:PlainAttrs T)(slot:Slot T name id)(hty:typeOf (.builtin id)=pure (.type "method_descriptor"))(hm:MtR X id r)(ho:PE X o to)(ha:PA X (e::es) t)
  (hbase:attributeBase o name X.env (eval o X.env)=eval o X.env:=by rfl)
  (hfew:((backTo cpos (starEach (e::es) X.env)).all (λx=>!x.1)&&(backToKw cpos (keywordEach [] X.env)).all (λx=>x.1.isSome)
   &&decide ((e::es).length+([]:List Keyword).length+(if([]:List Keyword).isEmpty then 0 else 1)<30))=true:=by rfl)
  (hline:(apos.endLine==cpos.line)=true:=by rfl) (hs:starEach (e::es) X.env=(false,eval e X.env)::starEach es X.env:=by rfl) (hplain:(backTo cpos (starEach es X.env)).any (·.1)=false:=by rfl):
  PE X (.Call (.Attribute o name apos) (e::es) [] cpos) (tBM X.K T r to t):=by
 intro pins s σ H Q I h;refine wpAny_Call_method_late hbase hfew hline rfl (thn (ho pins s σ H _ I h) λv s1 ⟨x,H1,I1,r1,ty,q1⟩=>?_);obtain⟨h1,h2⟩:=tyV_is I1 r1 ty;refine⟨T,id,pa,slot,hty,h1,h2,?_⟩;have hA:=ha cpos pins s1 σ H1 _ I1 q1;rw[hs] at hA⊢;refine Calls.callWith_builtin (by show(false||(backTo cpos (starEach es X.env)).any (·.1))=false;rw[hplain]<;>rfl) (Calls.evalArgs_plain ?_);exact thn hA λus s2 ⟨vs,H2,I2,r2,q2⟩=>hm pins s2 σ H2 x vs v us Q I2 r1 r2 q2
/-xs.append(e),list.index on a module's tuple .. are MtR facts of 06m-/
end
noncomputable def MtM(X:Cx)(id:String)(r:V->List V->Hp->VK->Prop):Prop:=
 ∀(pins:List (Addr×Obj))(s:Shared)(σ:St)(H:Hp)(x:V)(xs:List V)(v:Value)(us:List Value)(Q:VK),Inv X pins σ H s->RelV x v->Vals xs us->r x xs H Q->
  wpAny (model X.prog X.w) X.A (call (.builtin id) (v::us)) (EP X pins σ Q) X.xe s
theorem Vals.one:∀{x:V}{us:List Value},Vals [x] us->∃u,us=[u]/\RelV x u
 |_,_,.cons r .nil=>⟨_,rfl,r⟩
section
variable{X:Cx}{pins:List (Addr×Obj)}{σ:St}{H:Hp}{s:Shared}{l b:Addr}{xs ys zs:List V}
theorem Inv.lset{its its':List Value}{n:Nat}{f:Array Value->Array Value}{t':Nat}(I:Inv X pins σ H s)(hH:H l=some (.lst xs))
  (e:s.heap.get? l=some {cls:=.type "list",data:=.seq its.toArray n}) (hf:f its.toArray=its'.toArray) (hv:Vals ys its') (hz:ys.length<=sizeLine):
  Inv X pins σ (upd H l (.lst ys)) {s with heap:=s.heap.update l (Obj.mapSeq f),toks:=t'}:=by
 have q:=PySem.IsL.update e f;rw[hf] at q;refine I.write (x:=l) (e:=l) (by rw[hH];exact trivial) (.inl rfl) (λb' u hb hu=>(aAC s.heap (Obj.mapSeq f) (zL hb)).trans hu) ⟨_,q⟩ ?_;exact⟨hz,its',_,hv,q⟩
theorem Inv.lnew{its:List Value}{t':Nat}(I:Inv X pins σ H s)(hv:Vals ys its)(hz:ys.length<=sizeLine):
  Inv X pins σ (upd H s.heap.objs.size (.lst ys)) {s with heap:=s.heap.push {cls:=.type "list",data:=.seq its.toArray},toks:=t'}:=
 I.laid (λ_ _ q=>yO _ q) (yP _) ⟨hz,its,0,hv,y9 _ rfl⟩
theorem Inv.fresh(I:Inv X pins σ H s):H s.heap.objs.size=none:=I.hok.fresh (yP _)
theorem Inv.lstM(I:Inv X pins σ H s)(hH:H l=some (.lst xs)):xs.length<=sizeLine/\∃(its:List Value)(n:Nat),Vals xs its/\xs.length=its.length/\s.heap.get? l=some {cls:=.type "list",data:=.seq its.toArray n}:=by
 obtain⟨z,its,n,r,e⟩:=I.hok l _ hH;exact⟨z,its,n,r,r.length,e⟩
end
section
variable{X:Cx}
noncomputable def rAppend:V->List V->Hp->VK->Prop:=λx vs H Q=>∃l xs y,x=.ref l/\vs=[y]/\H l=some (.lst xs)/\xs.length<sizeLine/\Q .non (upd H l (.lst (xs++[y])))
theorem jN:MtM X "list.append" rAppend:=by
 intro pins s σ H x vs v us Q I rx rv h;obtain⟨l,xs,y,rfl,rfl,hH,hz,q⟩:=h;cases rx;obtain⟨u,rfl,ru⟩:=rv.one;obtain⟨z,its,n,r,hl,e⟩:=I.lstM hH;refine call_meets F.slot_list_append ⟨_,e,rfl⟩ F.entry_list_append (F.args_list_append_2 _ _) (PySem.list_append l its.toArray n u (by rw[yW];omega)) ⟨e,?_⟩;refine⟨.non,_,I.lset (its':=its++[u]) hH e (by simp) (r.append (.cons ru .nil)) ?_,rfl,q⟩;rw[yY,List.length_singleton];omega
noncomputable def rCat:R2:=λx y H Q=>∃l b xs zs,x=.ref l/\y=.ref b/\H l=some (.lst xs)/\H b=some (.lst zs)/\xs.length+zs.length<=sizeLine/\∀p,H p=none->Q (.ref p) (upd H p (.lst (xs++zs)))
theorem op_cat:OpR X (binaryOp .Add) rCat:=by
 intro pins s σ H x y v u Q I rx ry h;obtain⟨l,b,xs,zs,rfl,rfl,hH,hB,hz,q⟩:=h;cases rx;cases ry;obtain⟨z,its,n,r,hl,e⟩:=I.lstM hH;obtain⟨z2,its2,n2,r2,hl2,e2⟩:=I.lstM hB;refine PySem.P.add_list e e2 ?_ (by rw[yW,yW];omega);have ea:its.toArray++its2.toArray=(its++its2).toArray:=by simp
 rw[ea];exact⟨.ref _,_,I.lnew (t':=s.toks) (r.append r2) (by rw[yY];omega),rfl,q _ I.fresh⟩
end
end L2
namespace Att
open PySem PySem.W PySem.Calls PyProof.Rows
theorem fV:∀(ns:List Int)(vs:List Value),WellAll P h vs (ns.map WData.int)->IntsAre vs ns:=by
 intro ns
 induction ns with
 |nil=>
  intro vs w;rw[aAO] at w;cases w;exact .nil
 |cons n ns ih=>
  intro vs w;rw[yQ] at w
  cases w with
  |cons a b=>
   cases a;exact .cons _ _ (ih _ b)
theorem sR{l:OpenLaw}(hn:l.most=some n)
  (hpre:l.row.toRowW.claim.pre args=true) (hwl:WellAll P h vals args):
  ∃a vs ns,vals=[Value.ref a]/\args=[WData.list (ns.map WData.int)]/\h.get? a=some {cls:=.type "list",data:=.seq vs.toArray}/\IntsAre vs ns/\ns.length<=n:=by
 have hsh:WShape.hasAll [] args [.list .int]=true:=(pre_splitW hpre).1;have hc:l.pre.holds [] {args:=args}=true:=(pre_splitW hpre).2;obtain⟨d,r,rfl,h1,h2⟩:=hasAllW_cons hsh;obtain rfl:=hasAllW_nil h2;obtain⟨xs,rfl,h3⟩:=hasW_list h1;obtain⟨ns,rfl⟩:=items_int h3;have hlen:ns.length<=n:=by
  unfold OpenLaw.pre at hc;have h4:(WTm.not (.lt (.lit (.int (n:Int))) (.len (.arg 0)))).holds [] {args:=[.list (ns.map .int)]}=true:=by
   have h4:=(holds_andW hc).1;rw[hn] at h4;exact h4
  have h5:=condW_of h4 (w_not (w_lt w_lit (w_len_list (w_arg rfl))));rw[yI] at h5;refine Nat.le_of_not_lt λq=>?_;have q':(n:Int)<((ns.length:Nat):Int):=by omega
  first
   |(rw[zT q'] at h5;exact absurd h5 (by decide))
   |(simp at h5;omega)
 cases hwl with
 |cons w1 w2=>
  cases w2
  cases w1 with
  |list ho hall=>exact⟨_,_,ns,rfl,rfl,ho,fV ns _ hall,hlen⟩
theorem sS(l:OpenLaw)(args:List WData):l.row.toRowW.claim.post args (.bool true) args=true:=
 postW_of (r:=l.row.toRowW) (X:=(true==true))
  (show WShape.has [] (.bool true) .bool=true by first|rfl|decide|simp[WShape.has,WShape.arms,WShape.armsAll])
  (show(WTm.eq .res (.lit (.bool true))).value [] {args:=args,res:=some (.bool true),after:=args}=some (.bool (true==true)) from w_eq_bool (w_res rfl) w_lit) rfl
theorem attach_call{l:OpenLaw}
  (hn:l.most=some n) (hdf:d.params.defaults=[])
  (call:∀(w:World)(s₀ s₁:Shared)(mg mb:Str->Option Value)(fa:Addr)(o:Obj)(pm cd doc:Value)(a:Addr)(vs:List Value)(ns:List Int),
   Ground q loose [] XP w s₀ mg mb s₁.heap->YP w s₁.heap->
   s₁.heap.get? fa=some o->o.data=.func (docDef d.name d.params d.body d.scope pm cd doc)->s₁.heap.CodeRec cd d.name->mg d.name=some (.ref fa)->
   s₁.heap.get? a=some {cls:=.type "list",data:=.seq vs.toArray}->IntsAre vs ns->ns.length<=n->s₁.gens= #[]->
   codeAny (model l.prog w) callerA (.call (.ref fa) ⟨[.ref a],[]⟩) (λr s'=>r=.ok (.ret (.bool true))/\OldK s₁.heap s'.heap/\s'.os=s₁.os/\AllBare s'.gens) s₁):
  WalkO q loose XP YP l.row.toRowW d [] (λf vs=>PySem.call f vs):=by
 intro w s₀ s₁ mg mb G Y fa o pm cd doc dV kV ho hd hcd hD hmg hg args vals as hpre hlay hrd hwl hlo;obtain rfl:dV=.none:=Dflts.none hD hdf;obtain rfl:kV=.none:=Dflts.noKw hD;obtain⟨a,vs,ns,rfl,rfl,hobj,hints,hlen⟩:=sR hn hpre hwl;refine enter_call (codeAny_mono (call w s₀ s₁ mg mb fa o pm cd doc a vs ns G Y ho (fd_plain hd) hcd hmg hobj hints hlen hg) λr s' hq=>?_);obtain⟨rfl,h2,h3,h4⟩:=hq;exact⟨.inl ⟨.bool true,.bool true,[],rfl,λ_=>rfl,.bool true,sS l _,λ_=>⟨List.Pairwise.nil,λ_ hm=>(nomatch hm)⟩⟩,h2,h3,h4⟩
end Att
namespace L2
open PySem PySem.Spec PyProof.Rows
theorem vals_ints:∀{vs:List Value}{ns:List Int},IntsAre vs ns->Vals (ns.map V.int) vs
 |_,_,.nil=>.nil
 |_,_,.cons n t h=>.cons ⟨t,rfl⟩ (vals_ints h)
noncomputable def Only(H:Hp):Prop:=∀b,H b=none\/∃o xs,H b=some (.frz o (.lst xs))
end L2
/-THE LAST THEOREM (shape;LID,My.*are yours):
  My.Adr:a structure of the addresses that your layer names (classes,functions);My.Txt K t:a structure (Prop) of the equations over K;
  My.txt_mk:{K} {implicit addresses ..} (e1:nsIn K mainGlobals "law"=some (some (.ref f))) (e2:K.lookup f=some ⟨oc,od,.func (fnOf "law" "law" params body scope dV kV doc pm an cdv ct),sl⟩) (e3:codeIn K cdv "law"=true) .. :∃t,My.Txt K t
(the tactic k_is has no namespace:write k_is)-/
namespace L2
open PySem PySem.Spec PyProof.Rows
structure Fun(K:PySem.W.Frag)(x qual:Str)(st:Stmt)(f:Addr)(fd:FuncData):Prop where
 ex:∃(oc:Value)(od:Option Addr)(kV doc pm:Value)(an:Option Addr)(cdv ct:Value)(osl:Array (Option Value)),
  fd=PySem.W.fnOf x qual (defArgs st) (defBody st) (defScope st) .none kV doc pm an cdv ct/\K.lookup f=some ⟨oc,od,.func fd,osl⟩/\PySem.W.codeIn K cdv qual=true
 kp:PySem.W.keepIn K (.ref f)=true
section
variable{P:Program}{w:World}{K:PySem.W.Frag}{mg:Str->Option Value}{base:Heap}
theorem Fun.binds{x qual:Str}{st:Stmt}{f:Addr}{fd:FuncData}{ps:List Str}(F:Fun K x qual st f fd)
  (h:∀(kV doc pm:Value)(an:Option Addr)(cdv ct:Value)(us:List Value),us.length=ps.length->bindArgs (PySem.W.fnOf x qual (defArgs st) (defBody st) (defScope st) .none kV doc pm an cdv ct) ⟨us,[]⟩=pure (ps.zip us)):Binds K fd ps []:=by
 obtain⟨oc,od,kV,doc,pm,an,cdv,ct,osl,rfl,lk,hcd⟩:=F.ex;exact .all (h kV doc pm an cdv ct)
theorem fun_mk{st:Stmt}{kV doc pm cdv ct:Value}(l:K.lookup f=some ⟨oc,od,.func (PySem.W.fnOf x qual (defArgs st) (defBody st) (defScope st) .none kV doc pm an cdv ct),osl⟩)
  (c:PySem.W.codeIn K cdv qual=true) (k:PySem.W.keepIn K (.ref f)=true):Fun K x qual st f (PySem.W.fnOf x qual (defArgs st) (defBody st) (defScope st) .none kV doc pm an cdv ct):=⟨⟨oc,od,kV,doc,pm,an,cdv,ct,osl,rfl,l,c⟩,k⟩
end
noncomputable def Same(H H':Hp):Prop:=∀b o,H b=some o->H' b=some o
theorem Same.refl(H:Hp):Same H H:=λ_ _ h=>h
theorem Same.trans(a:Same H H1)(b:Same H1 H2):Same H H2:=λc o h=>b c o (a c o h)
theorem Same.free(e:Same H H')(h:H' l=Option.none):H l=Option.none:=by
 cases q:H l with
 |none=>rfl
 |some o=>
  rw[e l o q] at h;cases h
theorem u9{α:Type}(xs:List α)(i:Nat):∀k,((List.range k).map λm=>i+m).filterMap (λm=>xs[m]?)=(xs.drop i).take k
 |0=>by simp
 |k+1=>by
  rw[aAS,zW,List.filterMap_append,u9 xs i k,List.take_add_one,List.getElem?_drop]
  congr 1
theorem mI(v:Int)(n d:Nat):max 0 (min (if v<0 then v+(n:Int) else v) (n:Int))=((HT.sIx n d (some v):Nat):Int):=by
 show _=(((if v<0 then(v+(n:Int)).toNat else min v.toNat n):Nat):Int)
 by_cases hv:v<0
 ·simp only[yM hv];omega
 ·simp only[yK hv];omega
theorem txt_ix(lo hi:Option Int)(n:Nat):Builtin.Str.strSliceIndices lo hi 1 n=(List.range (HT.sIx n n hi-HT.sIx n 0 lo)).map λm=>HT.sIx n 0 lo+m:=by
 have e:Builtin.Str.strSliceIndices lo hi 1 n=sliceRange ((HT.sIx n 0 lo:Nat):Int) ((HT.sIx n n hi:Nat):Int) 1:=by
  unfold Builtin.Str.strSliceIndices;have h1:(1:Int)>0:=by omega
  simp only[h1,yT]
  congr 1
  ·cases lo with
   |none=>rfl
   |some v=>exact mI v n 0
  ·cases hi with
   |none=>rfl
   |some v=>exact mI v n n
 rw[e];generalize HT.sIx n 0 lo=i;generalize HT.sIx n n hi=j;unfold sliceRange;have h1:(1:Int)>0:=by omega
 simp only[h1,yT,Int.ediv_one];have e2:(if(i:Int)<(j:Int) then(j:Int)-i+1-1 else 0).toNat=j-i:=by split<;>omega
 rw[e2];refine aAE λm _=>?_;omega
theorem sU(x:Str)(lo hi:Option Int):Txt.slice x lo hi=⟨((x.cps.toList.drop (HT.sIx x.length 0 lo)).take (HT.sIx x.length x.length hi-HT.sIx x.length 0 lo)).toArray⟩:=by
 unfold Txt.slice;rw[txt_ix];have hn:x.length=x.cps.toList.length:=by show x.cps.size=_;simp
 split
 ·next h=>
  have h2:HT.sIx x.length x.length hi-HT.sIx x.length 0 lo=x.length:=by simpa using h
  have hj:HT.sIx x.length x.length hi<=x.length:=HT.sIx_le _ _ (yP _) hi;rw[h2];by_cases h0:x.length=0
  ·have:x.cps.toList=[]:=List.eq_nil_of_length_eq_zero (by omega)
   rw[this];have:x.cps= #[]:=by rw[←Array.toList_inj];exact this
   cases x;simp at this;subst this;simp
  ·have:HT.sIx x.length 0 lo=0:=by omega
   rw[this,List.drop_zero,hn,zV]
 ·congr 2
  have:=u9 x.cps.toList (HT.sIx x.length 0 lo) (HT.sIx x.length x.length hi-HT.sIx x.length 0 lo);rw[←this]
  congr 1
  funext m;simp
variable{X:Cx}
noncomputable def rSlS:V->Option Int->Option Int->Hp->VK->Prop:=λx lo hi H Q=>∃z,x=.str z/\z.length<=sizeLine/\Q (.str (Txt.slice z lo hi)) H
theorem sl_str:SlR X rSlS:=by
 intro pins s σ H x v vl vu lo hi sl Q I rx hs pl pu h;obtain⟨z,rfl,hz,q⟩:=h;obtain⟨t,rfl⟩:=rx;obtain⟨l,rfl,rfl⟩:∃l:Option (Int×Tok),vl=partValue l/\l.map (·.1)=lo:=by
  cases pl with
  |none=>exact⟨none,rfl,rfl⟩
  |int i t=>exact⟨some (i,t),rfl,rfl⟩
 obtain⟨u,rfl,rfl⟩:∃l:Option (Int×Tok),vu=partValue l/\l.map (·.1)=hi:=by
  cases pu with
  |none=>exact⟨none,rfl,rfl⟩
  |int i t=>exact⟨some (i,t),rfl,rfl⟩
 refine⟨"str",_,F.slot_str_getitem.lookup,typeIs_str _ _ _,wpAny_getItem_str_slice (l:=l) (u:=u) (st:=none) hs rfl (post_val_or_str ⟨zB (Txt.slice_le z _ _) hz,λt' k=>?_⟩)⟩;exact⟨.str (Txt.slice z _ _),H,I.tok _,⟨t',rfl⟩,q⟩
end L2
namespace L2
open PySem PySem.Spec PyProof.Rows
theorem kX(I:Nat->Shared->Prop)
  (turn:∀n s,I n s->wpAny (model prog w) A (pyNext it) (λr s₁=>match r with
   |none=>R (.ok .next) s₁
   | some v=>wpAny (model prog w) A (letOwnedTupleGo target it v) (λ_ s₀=>wpAny (model prog w) A (assign target env v) (λ_ s₂=>
     wpAny (model prog w) A (forIn ifs true λc r=>if r=true then do let ok←isTrue c env (eval c env);pure (ForInStep.yield ok) else pure (ForInStep.yield r)) (λok s₃=>
      if ok=true then wpAny (model prog w) A (eval elt env) (λx s₄=>
       wpAny (model prog w) A (call (.builtin "list.append") [acc,x]) (λ_ s₅=>∃m,m<n/\I m s₅) (notedBy (model prog w) A env λe s'=>R (.error e) s') s₄) (notedBy (model prog w) A env λe s'=>R (.error e) s') s₃
      else∃m,m<n/\I m s₃) (notedBy (model prog w) A env λe s'=>R (.error e) s') s₂) (notedBy (model prog w) A env λe s'=>R (.error e) s') s₀) (notedBy (model prog w) A env λe s'=>R (.error e) s') s₁) (notedBy (model prog w) A env λe s'=>R (.error e) s') s)
  (n:Nat) (h:I n s):
  codeAny (model prog w) A (.compLoop (.ListComp elt [⟨target,iter,ifs,0⟩] scope pos) 0 it acc env) R s:=by
 refine codeAny_loop rfl I (λn s hI=>?_) n h;show wpAny _ A ((compTurn (.ListComp elt [⟨target,iter,ifs,0⟩] scope pos) 0 it acc env).onRaise (λx=>do noteFrame x env;theTreesLotGoes x)) _ _ s;refine wpAny_noted ?_;rw[compTurn_list];refine gV (wpAny_standAt (gV (z8 (turn n s hI) (λr s₁ h₁=>?_) λ_ _ h'=>h')))
 cases r with
 |none=>exact yN h₁
 |some v=>
  refine gV (z8 h₁ (λ_ s₀ h₀=>?_) λ_ _ h'=>h');refine gV (z8 h₀ (λ_ s₂ h₂=>gV (z8 h₂ (λok s₃ h₃=>?_) λ_ _ h'=>h')) λ_ _ h'=>h')
  cases ok with
  |false=>exact yN ⟨rfl,h₃⟩
  |true=>
   exact gV (gV (z8 h₃ (λx s₄ h₄=>gV (z8 h₄ (λ_ s₅ h₅=>yN (yN ⟨rfl,h₅⟩)) λ_ _ h'=>h')) λ_ _ h'=>h'))
noncomputable def capS(σ:St)(caps:List Nat)(ntg:Nat):St:=List.replicate ntg none++caps.map λj=>(σ[j]?).getD none
noncomputable def cxComp(X:Cx)(N':List Str)(scope:Scope)(cl:List (Str×Addr))(C:Addr)(s:Shared)(H:Hp)(fp:List Addr)(E:Value->Shared->Prop):Cx where
 prog:=X.prog
 w:=X.w
 K:=X.K
 mg:=X.mg
 base:=X.base
 A:=X.A
 N:=N'
 s₀:=s
 H₀:=H
 env:=compEnvC scope cl C X.env
 outer:=X.stack
 stack:=X.stack
 ex:=fp
 fn:=λ_=>false
 calm:=X.calm
 pn:=[]
 xe:=E
structure CompSc(X:Cx)(N':List Str)(caps:List Nat)(ntg:Nat)(scope:Scope):Prop where
 kind:scope.kind=.function
 ncell:∀y∈scope.names,y.2≠.cell
 loc:∀y∈scope.names,y.2=.local->scope.names.lookup y.1=some .local
 fre:∀y∈scope.names,y.2=.free->X.env.kindOf y.1=some .cell\/X.env.kindOf y.1=some .free
 len:N'.length=ntg+caps.length
 cap:∀(i j:Nat)(x:Str),caps[i]?=some j->N'[ntg+i]?=some x->X.N[j]?=some x/\scope.names.lookup x=some .free
theorem bA{env:Env}:∀{names:List (Str×NameKind)}{x:Str}{k:NameKind},
  (names.map λ(n,k)=>if(k==NameKind.free&&env.scope.kind== .function&&env.kindOf n==some .cell) then(n,NameKind.cell) else(n,k)).lookup x=some k->
  ∃k',names.lookup x=some k'/\(k=k'\/(k'=.free/\k=.cell))
 |[],_,_,h=>by simp at h
 |(n,k0)::r,x,k,h=>by
  have ih:= @bA env r x k;have h':List.lookup x ((if(k0==NameKind.free&&env.scope.kind== .function&&env.kindOf n==some .cell)=true then(n,NameKind.cell) else(n,k0))::(r.map λ(n,k)=>if(k==NameKind.free&&env.scope.kind== .function&&env.kindOf n==some .cell) then(n,NameKind.cell) else(n,k)))=some k:=h
  cases hx:x==n with
  |true=>
   refine⟨k0,by simp only[zR,hx],?_⟩;by_cases hc:(k0==NameKind.free&&env.scope.kind== .function&&env.kindOf n==some .cell)=true
   ·rw[yM hc] at h'
    simp only[zR,hx] at h';cases h';refine .inr ⟨?_,rfl⟩;simp only[yU,beq_iff_eq] at hc;exact hc.1.1
   ·rw[yK hc] at h'
    simp only[zR,hx] at h';cases h';exact .inl rfl
  |false=>
   have e:List.lookup x (r.map λ(n,k)=>if(k==NameKind.free&&env.scope.kind== .function&&env.kindOf n==some .cell) then(n,NameKind.cell) else(n,k))=some k:=by
    by_cases hc:(k0==NameKind.free&&env.scope.kind== .function&&env.kindOf n==some .cell)=true
    ·rw[yM hc] at h';simpa only[zR,hx] using h'
    ·rw[yK hc] at h';simpa only[zR,hx] using h'
   obtain⟨k',e1,e2⟩:=ih e;exact⟨k',by simp only[zR,hx];exact e1,e2⟩
theorem aX{env:Env}:∀{names:List (Str×NameKind)}{x:Str},names.lookup x=some .free->
  (names.map λ(n,k)=>if(k==NameKind.free&&env.scope.kind== .function&&env.kindOf n==some .cell) then(n,NameKind.cell) else(n,k)).lookup x=some .cell\/
  (names.map λ(n,k)=>if(k==NameKind.free&&env.scope.kind== .function&&env.kindOf n==some .cell) then(n,NameKind.cell) else(n,k)).lookup x=some .free
 |[],_,h=>by simp at h
 |(n,k0)::r,x,h=>by
  have ih:= @aX env r x;show List.lookup x ((if(k0==NameKind.free&&env.scope.kind== .function&&env.kindOf n==some .cell)=true then(n,NameKind.cell) else(n,k0))::_)=_\/List.lookup x ((if(k0==NameKind.free&&env.scope.kind== .function&&env.kindOf n==some .cell)=true then(n,NameKind.cell) else(n,k0))::_)=_
  cases hx:x==n with
  |true=>
   simp only[zR,hx] at h;cases h;by_cases hc:(NameKind.free==NameKind.free&&env.scope.kind== .function&&env.kindOf n==some .cell)=true
   ·rw[yM hc];exact .inl (by simp only[zR,hx])
   ·rw[yK hc];exact .inr (by simp only[zR,hx])
  |false=>
   simp only[zR,hx] at h;by_cases hc:(k0==NameKind.free&&env.scope.kind== .function&&env.kindOf n==some .cell)=true
   ·rw[yM hc];simp only[zR,hx];exact ih h
   ·rw[yK hc];simp only[zR,hx];exact ih h
theorem cQ:∀(names:List (Str×NameKind))(cs:List (Str×Addr)),(∀y∈names,y.2=.free->∃c,env.cells.lookup y.1=some c)->
  ∃ cl,(forIn names cs λ(x:Str×NameKind)(r:List (Str×Addr))=>(do
    if(x.2==NameKind.free)=true then(do let a←cellOf env x.1;pure (ForInStep.yield ((x.1,a)::r))) else pure (ForInStep.yield r):Sem (ForInStep (List (Str×Addr)))))=pure cl/\
   (∀x c,cl.lookup x=some c->cs.lookup x=some c\/env.cells.lookup x=some c)/\(∀x,(x,NameKind.free)∈names->∃c,cl.lookup x=some c)/\(∀x c,cs.lookup x=some c->∃c',cl.lookup x=some c')
 |[],cs,_=>⟨cs,rfl,λx c h=>.inl h,λx h=>by simp at h,λx c h=>⟨c,h⟩⟩
 |(n,k)::r,cs,h=>by
  rw[List.forIn_cons];by_cases hk:k=.free
  ·subst hk
   obtain⟨a,ha⟩:=h (n,.free) yZ rfl;obtain⟨cl,e,p1,p2,p3⟩:=cQ r ((n,a)::cs) λy hy=>h y (yR _ hy);refine⟨cl,?_,λx c hc=>?_,λx hx=>?_,λx c hc=>?_⟩
   ·have e1:cellOf env n=pure a:=by unfold cellOf;rw[ha]
    simp only[beq_self_eq_true,yT,e1,pure_bind];exact e
   ·rcases p1 x c hc with q|q
    ·by_cases hx:x==n
     ·simp only[zR,hx] at q
      cases q;have:x=n:=by simpa using hx
      subst this;exact .inr ha
     ·simp only[zR,hx] at q
      exact .inl q
    ·exact .inr q
   ·rcases List.mem_cons.mp hx with q|q
    ·cases q
     exact p3 n a (by simp[zR])
    ·exact p2 x q
   ·by_cases hx:x==n
    ·exact p3 x a (by simp only[zR,hx])
    ·exact p3 x c (by simp only[zR,hx];exact hc)
  ·obtain⟨cl,e,p1,p2,p3⟩:=cQ r cs λy hy=>h y (yR _ hy)
   refine⟨cl,?_,p1,λx hx=>?_,p3⟩
   ·have hb:(k==NameKind.free)=false:=by simpa using hk
    simp only[hb,yH,yX,pure_bind];exact e
   ·rcases List.mem_cons.mp hx with q|q
    ·cases q;exact absurd rfl hk
    ·exact p2 x q
theorem gR(ok:X.Ok)(Sc:CompSc X N' caps ntg scope):
  ∃cl,closureFor scope X.env=pure cl/\(∀x c,cl.lookup x=some c->X.env.cells.lookup x=some c)/\∀x,(x,NameKind.free)∈scope.names->∃c,cl.lookup x=some c:=by
 obtain⟨cl,e,p1,p2,_⟩:=cQ (env:=X.env) scope.names [] λy hy hf=>ok.has y.1 (Sc.fre y hy hf);refine⟨cl,?_,λx c hc=>(p1 x c hc).resolve_left (by simp),p2⟩;exact Eq.trans (congrArg (· >>=λcs=>pure cs) e) rfl
noncomputable def PTs(X:Cx)(ifs:List Expr)(t:TT):Prop:=
 ∀(pins:List (Addr×Obj))(s:Shared)(σ:St)(H:Hp)(Q:Bool->Hp->Prop),Inv X pins σ H s->t σ H Q->
  wpAny (model X.prog X.w) X.A (forIn ifs true λc r=>if r=true then do let ok←isTrue c X.env (eval c X.env);pure (ForInStep.yield ok) else pure (ForInStep.yield r)) (TP X pins σ Q) X.xe s
theorem pts_nil:PTs X [] (λσ H Q=>Q true H):=λ_ _ _ H _ I h=>wpAny_tests_nil ⟨H,I,h⟩
theorem pts_one(h:PT X c t):PTs X [c] t:=λpins s σ H Q I q=>wpAny_tests_one (h pins s σ H Q I q)
noncomputable def tCompL(J:It)(g:TG)(tc:TT)(te:TE)(Q:Hp->Prop)(σ0:St)(p:Addr)(H0:Hp):Prop:=
 ∃W:Nat->Nat->St->Hp->Prop,(∃m,W 0 m σ0 H0)/\∀i m σ H,W i m σ H->
  (J.stop i H/\Q H)\/(J.go i H/\∀x H',J.yld i H x H'->g x σ H' λσ2 H2=>tc σ2 H2 λb H3=>
   if b=true then te σ2 H3 λv H4=>∃ys m',H4 p=some (.lst ys)/\ys.length<sizeLine/\m'<m/\W (i+1) m' σ2 (upd H4 p (.lst (ys++[v])))
   else∃m',m'<m/\W (i+1) m' σ2 H3)
noncomputable def tComp(wi:TI)(g:TG)(tc:TT)(te:TE)(caps:List Nat)(ntg:Nat):TE:=λσ H Q=>
 wi σ H λJ H1=>∀p,H1 p=none->tCompL J g tc te (λH'=>Q (.ref p) H') (capS σ caps ntg) p (upd H1 p (.lst []))
section
variable{X:Cx}{N':List Str}{caps:List Nat}{ntg:Nat}{scope:Scope}{pins:List (Addr×Obj)}{σ:St}{H2:Hp}{s2:Shared}
theorem vA(h:(capS σ caps ntg)[i]?=some (some v)):∃k j,i=ntg+k/\caps[k]?=some j/\σ[j]?=some (some v):=by
 unfold capS at h;by_cases hi:i<ntg
 ·rw[zG (by simpa using hi),List.getElem?_replicate,yM hi] at h
  cases h
 ·rw[zF (by simpa using hi),List.length_replicate,zE] at h
  cases e:caps[i-ntg]? with
  |none=>rw[e] at h;cases h
  |some j=>
   rw[e] at h;refine⟨i-ntg,j,by omega,e,?_⟩;have h':(σ[j]?).getD none=some v:=by simpa using h
   cases q:σ[j]? with
   |none=>rw[q] at h';cases h'
   |some o=>rw[q] at h';simp at h';rw[h']
theorem o0{it:Addr}{fp:List Addr}{cl:List (Str×Addr)}{p:Addr}{s3:Shared}{h1:Heap}{tk:Nat}{tn:Nat->Heap->Prop}{tg:Expr}{J:It}{E:Value->Shared->Prop}
  (I2:Inv X pins σ H2 s2) (Sc:CompSc X N' caps ntg scope)
  (hin:∀x c,cl.lookup x=some c->X.env.cells.lookup x=some c) (hall:∀x,(x,NameKind.free)∈scope.names->∃c,cl.lookup x=some c)
  (T:Turn X.prog X.w X.K tg J fp it tn) (t2:tn 0 s2.heap) (f2:∀b∈fp,FpOk X pins H2 b)
  (hp:p=s2.heap.objs.size) (hs3:s3={s2 with heap:=s2.heap.push {cls:=.type "list",dict:=none,data:=.seq ([]:List Value).toArray}})
  (k1:∀b o,s3.heap.get? b=some o->h1.get? b=some o) {m:Str->Option Value} (hns:h1.Ns s3.heap.objs.size m):
  Inv (cxComp X N' scope cl s3.heap.objs.size s3 (upd H2 p (.lst [])) fp E) [] (capS σ caps ntg) (upd H2 p (.lst [])) {s3 with heap:=h1,toks:=tk}:=by
 have I3:Inv X pins σ (upd H2 p (.lst [])) s3:=by
  subst hp hs3;exact I2.lnew (ys:=[]) (its:=[]) (t':=s2.toks) .nil (Nat.zero_le _)
 have sz:s3.heap.objs.size=s2.heap.objs.size+1:=by subst hs3;exact Heap.size_push ..
 have fresh3:upd H2 p (.lst []) s3.heap.objs.size=none:=I3.hok.fresh (yP _);have inC:∀b o,s3.heap.get? b=some o->b≠s3.heap.objs.size:=λb o e=>zP (yV e);have k0:∀b o,s2.heap.get? b=some o->s3.heap.get? b=some o:=λb o e=>by subst hs3;exact yO _ e
 have fpo:∀b∈fp,∃o,s2.heap.get? b=some o/\∀v,o.data≠.cell v:=T.obj _ _ t2;have fpp:∀b∈fp,b≠p:=λb hb=>by
  obtain⟨o,e,_⟩:=fpo b hb;subst hp;exact zP (yV e)
 refine⟨⟨I3.ok.mod,Sc.kind,I3.ok.glob,I3.ok.blt,yP _,λx y c e1 e2=>I3.ok.inj x y c (hin _ _ e1) (hin _ _ e2),λx hx=>?_,λx c e _=>absurd e yL,I3.ok.hd,I3.ok.frames,.inl rfl,λb hb=>⟨?_,λx c e=>?_⟩,
  I3.bs,zB I3.ok.bsz I3.sz,λb o e hb=>?_,λb hb hf=>?_,I3.stack,I3.stkFree⟩,rfl,I3.bare,Un.kept k1,⟨m,hns,λi x v e1 e2 e3=>?_⟩,λx c e=>?_,fresh3,λx c e=>?_,λq hq=>absurd (show q∈([]:List (Addr×Obj)) from hq) (by simp),I3.hok.kept k1,?_⟩
 ·--every name of the block that is a cell or free has its cell
  have hx':(relabel scope X.env).names.lookup x=some .cell\/(relabel scope X.env).names.lookup x=some .free:=hx;have key:scope.names.lookup x=some .free:=by
   rcases hx' with q|q
   ·obtain⟨k',e1,e2⟩:=bA (env:=X.env) (names:=scope.names) q
    rcases e2 with e2|⟨e2,_⟩
    ·subst e2
     exact absurd rfl (Sc.ncell _ (aAK e1))
    ·rw[e2] at e1;exact e1
   ·obtain⟨k',e1,e2⟩:=bA (env:=X.env) (names:=scope.names) q
    rcases e2 with e2|⟨e2,e3⟩
    ·subst e2;exact e1
    ·cases e3
  exact hall x (aAK key)
 ·obtain⟨o,e,_⟩:=fpo b hb
  exact inC b o (k0 b o e)
 ·exact(f2 b hb).2.2.2.2.1 x c (hin x c e)
 ·obtain⟨_,_,_,h4,_⟩:=f2 b hb
  rcases h4 with h4|h4
  ·exact I2.ok.noex b o e h4
  ·exact absurd (zH (yV e) (zB I2.ok.bsz h4)) (aAD _)
 ·obtain⟨_,h2,h3,_⟩:=f2 b hb
  rcases List.mem_cons.mp (I3.stkSub b hf) with z|z
  ·exact h2 z
  ·exact h3 z
 ·obtain⟨k,j,rfl,ej,ev⟩:=vA e2
  obtain⟨n1,n2⟩:=Sc.cap k j x ej e1;have hfr:X.env.kindOf x=some .cell\/X.env.kindOf x=some .free:=Sc.fre _ (aAK n2) rfl;obtain⟨m0,hn0,hl0⟩:=I3.loc;obtain⟨u,ru,lk⟩:=hl0 j x v n1 ev (.inr hfr);refine⟨u,ru,.inr ⟨aX n2,?_⟩⟩;obtain⟨c,ec⟩:=hall x (aAK n2);refine⟨c,ec,?_⟩;rcases lk with⟨kl,_⟩|⟨_,c',ec',q⟩
  ·rcases hfr with z|z<;>(rw[kl] at z;cases z)
  ·have:c'=c:=y8 (ec'.symm.trans (hin x c ec))
   subst this;obtain⟨o,ho,hd⟩:=q;exact⟨o,k1 _ o ho,hd⟩
 ·obtain⟨v,o,ho,hd⟩:=I3.cell x c (hin x c e)
  exact⟨v,o,k1 _ o ho,hd⟩
 ·exact I3.freeC x c (hin x c e)
 ·unfold capS
  show _=N'.length;rw[yY,List.length_replicate,yI,Sc.len]
theorem qS{Q:Addr->Hp->Prop}{RR:Value->Addr->Result->Shared->Prop}
  (hc:X.calm=true) (I2:Inv X pins σ H2 s2) (Sc:CompSc X N' caps ntg scope)
  (hin:∀x c,cl.lookup x=some c->X.env.cells.lookup x=some c) (hall:∀x,(x,NameKind.free)∈scope.names->∃c,cl.lookup x=some c)
  (T:Turn X.prog X.w X.K tg J fp it tn) (t2:tn 0 s2.heap) (f2:∀b∈fp,FpOk X pins H2 b)
  (hg:∀C s H,PG (cxComp X N' scope cl C s H fp λ_ _=>False) tg g) (ht:∀C s H,PTs (cxComp X N' scope cl C s H fp λ_ _=>False) ifs tc) (he:∀C s H,PE (cxComp X N' scope cl C s H fp λ_ _=>False) elt te)
  (q:∀p,H2 p=none->tCompL J g tc te (Q p) (capS σ caps ntg) p (upd H2 p (.lst [])))
  (hR:∀p C s' H' m,Inv X pins σ H' s'->H2 p=none->s'.heap.Ns C m->H' C=none->s2.heap.objs.size<C->Q p H'->RR (.ref p) C (.ok .next) s'):
  wpAny (model X.prog X.w) X.A (newList []) (λacc s₃=>wpAny (model X.prog X.w) X.A (newFunctionEnv scope X.env.globals cl [] X.env.qual none .none (some X.env)) (λcenv s₄=>
   codeAny (model X.prog X.w) X.A (.compStart (.ListComp elt [⟨tg,iter,ifs,0⟩] scope pos) 0 (.ref it) acc {cenv with scope:=relabel scope X.env}) (RR acc cenv.locals) s₄) X.xe s₃) X.xe s2:=by
 refine aAB (wpAny_newFunctionEnv Sc.ncell (by intro y hy;simp at hy) (λh₁ hns₁ hsb₁=>?_) Sc.kind);dsimp only at hns₁ hsb₁⊢;generalize hs3:({s2 with heap:=s2.heap.push {cls:=.type "list",dict:=none,data:=.seq ([]:List Value).toArray}}:Shared)=s3;have e3:s2.heap.push {cls:=.type "list",dict:=none,data:=.seq ([]:List Value).toArray}=s3.heap:=by rw[←hs3]
 rw[e3] at hns₁ hsb₁⊢;have k1:∀b o,s3.heap.get? b=some o->h₁.get? b=some o:=λb o e=>hsb₁.extBut b o (zP (yV e)) (yO _ e);have k0:∀b o,s2.heap.get? b=some o->s3.heap.get? b=some o:=λb o e=>by rw[←e3];exact yO _ e
 have sz:s3.heap.objs.size=s2.heap.objs.size+1:=by rw[←e3];exact Heap.size_push ..
 have os3:s3.os=s2.os:=by rw[←hs3]
 have hp0:H2 s2.heap.objs.size=none:=I2.hok.fresh (yP _);have IC:=o0 (E:=λ_ _=>False) (tk:=s2.toks+([]:List (Str×Value)).length) (h1:=h₁) I2 Sc hin hall T t2 f2 rfl hs3.symm k1 hns₁;have est:({s2 with heap:=h₁,toks:=s2.toks+([]:List (Str×Value)).length}:Shared)={s3 with heap:=h₁,toks:=s2.toks+([]:List (Str×Value)).length}:=by rw[←hs3]
 rw[est];have T1:tn 0 h₁:=T.keep _ _ _ t2 λb _ o e=>k1 b o (k0 b o e);obtain⟨W,⟨m0,w0⟩,turn⟩:=q _ hp0;have I3:Inv X pins σ (upd H2 s2.heap.objs.size (.lst [])) s3:=by
  rw[←hs3];exact I2.lnew (ys:=[]) (its:=[]) (t':=s2.toks) .nil (Nat.zero_le _)
 have fp3:∀b∈fp,upd H2 s2.heap.objs.size (.lst []) b=none:=λb hb=>by
  obtain⟨o,e,_⟩:=T.obj _ _ t2 b hb;rw[aA (zP (yV e))];exact(f2 b hb).1
 have fpC:∀b∈fp,b≠s3.heap.objs.size:=λb hb=>by
  obtain⟨o,e,_⟩:=T.obj _ _ t2 b hb;exact zP (yV (k0 b o e))
 have stat:∀{H':Hp},(∀b∈fp,H' b=none)->∀b∈fp,FpOk (cxComp X N' scope cl s3.heap.objs.size s3 (upd H2 s2.heap.objs.size (.lst [])) fp λ_ _=>False) [] H' b:=λhn b hb=>
  ⟨hn b hb,fpC b hb,λz=>by
   rcases List.mem_cons.mp (I3.stkSub b z) with y|y
   ·exact(f2 b hb).2.1 y
   ·exact(f2 b hb).2.2.1 y,.inl hb,λx c e=>(f2 b hb).2.2.2.2.1 x c (hin x c e),λp hp=>absurd (show p∈([]:List (Addr×Obj)) from hp) (by simp)⟩
 have loop:codeAny (model X.prog X.w) X.A (.compLoop (.ListComp elt [⟨tg,iter,ifs,0⟩] scope pos) 0 (.ref it) (.ref s2.heap.objs.size) (compEnvC scope cl s3.heap.objs.size X.env)) (RR (.ref s2.heap.objs.size) s3.heap.objs.size)
   {s3 with heap:=h₁,toks:=s2.toks+([]:List (Str×Value)).length}:=by
  refine kX (λn s'=>∃i σ' H',Inv (cxComp X N' scope cl s3.heap.objs.size s3 (upd H2 s2.heap.objs.size (.lst [])) fp λ_ _=>False) [] σ' H' s'/\tn i s'.heap/\(∀b∈fp,H' b=none)/\W i n σ' H') ?_ m0 ⟨0,_,_,IC,T1,fp3,w0⟩;rintro n s4 ⟨i,σ4,H4,I4,st4,fr4,w4⟩;rcases turn i n σ4 H4 w4 with⟨stop,qn⟩|⟨go,step⟩
  ·refine z8 (T.done (cxComp X N' scope cl s3.heap.objs.size s3 (upd H2 s2.heap.objs.size (.lst [])) fp λ_ _=>False) rfl rfl rfl hc i [] s4 σ4 H4 (λ_ _=>False) I4 (stat fr4) st4 stop) (λr s5 qQ=>?_) λ_ _ z=>False.elim z
   obtain⟨hr,I5⟩:=qQ;subst hr;obtain⟨mm,hm,_⟩:=I5.loc;have u1:Un (frs X.stack) fp H2 (upd H2 s2.heap.objs.size (.lst [])) s2.heap s3.heap:=by
    rw[←e3];exact Un.laid (λb u e=>yO _ e) (yP _) hp0
   have u2:Un (frs X.stack) fp H2 H4 s2.heap s5.heap:=u1.trans I5.base;have I6:Inv X pins σ H4 s5:=I2.call' (ch:=fp) (I5.os.trans os3) u2 I5.hok I5.bare λb hb=>⟨(f2 b hb).2.2.2.1,(f2 b hb).2.1,(f2 b hb).2.2.2.2.1,(f2 b hb).2.2.2.2.2⟩
   exact hR _ _ s5 H4 mm I6 hp0 hm I5.free (by rw[sz];exact Nat.lt_succ_self _) qn
  ·refine z8 (T.item (cxComp X N' scope cl s3.heap.objs.size s3 (upd H2 s2.heap.objs.size (.lst [])) fp λ_ _=>False) rfl rfl rfl hc i [] s4 σ4 H4 (λ_ _=>False) I4 (stat fr4) st4 go) (λr s5 qQ=>?_) λ_ _ z=>False.elim z
   obtain⟨u,hr,h5⟩:=qQ;subst hr;refine z8 h5 (λ_ s6 qQ=>?_) λ_ _ z=>False.elim z;obtain⟨x,H6,I6,r6,y6,st6,fr6⟩:=qQ;have I6':=I6.pinned (stat fr6) (T.obj _ _ st6);have keepIt:∀{σ7:St}{H7:Hp}{s7:Shared},Inv (cxComp X N' scope cl s3.heap.objs.size s3 (upd H2 s2.heap.objs.size (.lst [])) fp λ_ _=>False) ([]++pinsAt fp s6.heap) σ7 H7 s7->tn (i+1) s7.heap/\∀b∈fp,H7 b=none:=λ{σ7 H7 s7} I7=>
    ⟨T.keep _ _ _ st6 λb hb o e=>(I7.pin (b,o) (zK _ (zK _ (bM hb e)))).1,λb hb=>by
     obtain⟨o,e,d⟩:=T.obj _ _ st6 b hb;exact(I7.pin (b,o) (zK _ (zK _ (bM hb e)))).2.1⟩
   refine z8 (hg _ _ _ _ s6 σ4 H6 x u _ I6' r6 (step x H6 y6)) (λ_ s7 qQ=>?_) λ_ _ z=>False.elim z;obtain⟨σ7,H7,I7,q7⟩:=qQ;refine z8 (ht _ _ _ _ s7 σ7 H7 _ I7 q7) (λb s8 qQ=>?_) λ_ _ z=>False.elim z;obtain⟨H8,I8,q8⟩:=qQ
   cases b with
   |true=>
    rw[yM rfl] at q8⊢;refine z8 (he _ _ _ _ s8 σ7 H8 _ I8 q8) (λv s9 qQ=>?_) λ_ _ z=>False.elim z;obtain⟨y,H9,I9,r9,ys,m',hl,hz,hm,w9⟩:=qQ;refine z8 (jN (X:=(cxComp X N' scope cl s3.heap.objs.size s3 (upd H2 s2.heap.objs.size (.lst [])) fp λ_ _=>False)) _ s9 σ7 H9 (.ref s2.heap.objs.size) [y] (.ref s2.heap.objs.size) [v] (λ_ H=>W (i+1) m' σ7 H) I9 rfl (.cons r9 .nil) ⟨_,ys,y,rfl,rfl,hl,hz,w9⟩) (λ_ s10 qQ=>?_) λ_ _ z=>False.elim z;obtain⟨_,H10,I10,_,w10⟩:=qQ;exact⟨m',hm,i+1,σ7,H10,I10.unpinned,(keepIt I10).1,(keepIt I10).2,w10⟩
   |false=>
    rw[yK yL] at q8⊢;obtain⟨m',hm,w8⟩:=q8;exact⟨m',hm,i+1,σ7,H8,I8.unpinned,(keepIt I8).1,(keepIt I8).2,w8⟩
 exact codeAny_compStart_list loop (T.self _ _ _ _ _ T1 loop)
theorem pe_comp(hc:X.calm=true)(hi:PI X tg iter wi)(Sc:CompSc X N' caps ntg scope)
  (hg:∀cl C s H fp,PG (cxComp X N' scope cl C s H fp λ_ _=>False) tg g) (ht:∀cl C s H fp,PTs (cxComp X N' scope cl C s H fp λ_ _=>False) ifs tc) (he:∀cl C s H fp,PE (cxComp X N' scope cl C s H fp λ_ _=>False) elt te)
  (hs:∀x,foldedSetIterable iter X.env x=pure x):PE X (.ListComp elt [⟨tg,iter,ifs,0⟩] scope pos) (tComp wi g tc te caps ntg):=by
 intro pins s σ H Q I h;rw[eval_ListComp];obtain⟨cl,hcl,hin,hall⟩:=gR I.ok Sc;refine wpAny_comprehension_free (use:=none) rfl hs hcl Sc.kind Sc.loc (thn (hi pins s σ H _ I h) λv s1 h1=>thn h1 λitv s2 h2=>?_);obtain⟨it,fp,tn,J,H2,rfl,I2,T,t2,f2,q2⟩:=h2;refine qS (RR:=λacc C=>compPost (model X.prog X.w) X.A X.xe none (EP X pins σ Q) acc C) (Q:=λp H'=>Q (.ref p) H') hc I2 Sc hin hall T t2 f2 (λC s H=>hg cl C s H fp) (λC s H=>ht cl C s H fp) (λC s H=>he cl C s H fp) q2 ?_;intro p C s' H' m I' hp hm hC hlt hq;refine⟨m,hm,λh' sb=>⟨.ref p,H',?_,rfl,hq⟩⟩;refine I'.turned (t':=s'.toks) (it:=C) (λb o hb e=>sb.extBut b o hb e) hC (aAR (Nat.lt_trans I2.lt hlt)) (.inr (Nat.le_of_lt (Nat.lt_of_le_of_lt I2.sz hlt))) (λx c e z=>?_) λq hq z=>?_
 ·obtain⟨v,w⟩:=I2.cell x c e
  exact absurd (Nat.lt_trans w.lt (by rw[z];exact hlt)) (aAD _)
 ·exact absurd (Nat.lt_trans (yV (I2.pin q hq).1) (by rw[z];exact hlt)) (aAD _)
theorem fG(hN:X.N.Nodup)(hy:X.N[i]?=some y)(hx:Loc X.env.scope y)
  (hf:X.fn y=true\/X.env.scope.names.lookup y=some .local)
  (hsw:swapsWith (.ListComp elt [⟨tg,iter,ifs,0⟩] scope pos) (some (.Name y py)) spos.line X.env=pure true)
  (hc:X.calm=true) (hi:PI X tg iter wi) (Sc:CompSc X N' caps ntg scope)
  (hg:∀cl C s H fp,PG (cxComp X N' scope cl C s H fp λ_ _=>False) tg g) (ht:∀cl C s H fp,PTs (cxComp X N' scope cl C s H fp λ_ _=>False) ifs tc) (he:∀cl C s H fp,PE (cxComp X N' scope cl C s H fp λ_ _=>False) elt te)
  (hs:∀x,foldedSetIterable iter X.env x=pure x):PS X (.Assign [.Name y py] (.ListComp elt [⟨tg,iter,ifs,0⟩] scope pos) spos) (tAsg (tComp wi g tc te caps ntg) (gName i)):=by
 intro pins s σ H D I h;rw[exec_Assign_Name_used _ _ _ _ hsw];refine gV (wpAny_standAt (gV ?_));show wpAny _ X.A (do let _←comprehension (.ListComp elt [⟨tg,iter,ifs,0⟩] scope pos) scope X.env _ (newList []) false (eval iter X.env) (some (assign (.Name y py) X.env))) _ _ s;obtain⟨cl,hcl,hin,hall⟩:=gR I.ok Sc;refine gV (z8 (wpAny_comprehension_free (use:=some (assign (.Name y py) X.env)) (Q:=λ_ s'=>SP X pins D .next s') rfl hs hcl Sc.kind Sc.loc
  (thn (hi pins s σ H _ I h) λv s1 h1=>thn h1 λitv s2 h2=>?_)) (λ_ s' hq=>yN (yN hq)) λ_ _ e=>e)
 obtain⟨it,fp,tn,J,H2,rfl,I2,T,t2,f2,q2⟩:=h2;refine qS (RR:=λacc C=>compPost (model X.prog X.w) X.A X.xe (some (assign (.Name y py) X.env)) (λ_ s'=>SP X pins D .next s') acc C) (Q:=λp H'=>D.nx (σ.set i (some (.ref p))) H') hc I2 Sc hin hall T t2 f2
  (λC s H=>hg cl C s H fp) (λC s H=>ht cl C s H fp) (λC s H=>he cl C s H fp) q2 ?_
 intro p C s' H' m I' hp hm hC hlt hq;have hLC:C≠X.env.locals:=aAR (Nat.lt_trans I2.lt hlt);have hCc:∀x c,X.env.cells.lookup x=some c->c≠C:=λx c e z=>by
  obtain⟨v,w⟩:=I2.cell x c e;exact absurd (Nat.lt_trans w.lt (by rw[z];exact hlt)) (aAD _)
 have hCp:∀q∈X.pn++pins,q.1≠C:=λq hq z=>absurd (Nat.lt_trans (yV (I2.pin q hq).1) (by rw[z];exact hlt)) (aAD _);have hCs:X.s₀.heap.objs.size<=C:=Nat.le_of_lt (Nat.lt_of_le_of_lt I2.sz hlt);obtain⟨oC,es,ep,ho,hd,r⟩:=id hm;have I'':Inv X (pins++[(C,oC)]) σ H' s':=I'.pins_of λq hq=>by
  rcases List.mem_append.mp hq with z|z
  ·exact I'.pin q (zK _ z)
  ·have:q=(C,oC):=by simpa using z
   subst this;exact⟨ho,hC,hLC,I2.nofs (Nat.le_of_lt hlt),λv z=>by rw[hd] at z;cases z⟩
 show wpAny _ X.A (assign (.Name y py) X.env (.ref p)) _ _ s';refine thn (fZ hN hy hx hf (pins++[(C,oC)]) s' σ H' (.ref p) (.ref p) _ I'' rfl hq) λ_ s8 qQ=>?_;obtain⟨σ8,H8,I8,q8⟩:=qQ;have hC8:=(I8.pin (C,oC) (zK _ (zK _ (by simp))))
 refine⟨m,⟨oC,es,ep,hC8.1,hd,r⟩,λh' sb=>⟨σ8,H8,?_,q8⟩⟩;exact(I8.unpinned).turned (t':=s8.toks) (it:=C) (λb o hb e=>sb.extBut b o hb e) hC8.2.1 hLC (.inr hCs) hCc hCp
end
end L2
namespace PySem
open Sem (wp)
open AutoSeq1 (wpAny_loadPart')
theorem cM(l:Addr)(items:Array Value)(n:Nat)(dct:Option Addr)(sl:Array (Option Value)):
  Meets (Builtin.«enumerate.__new__» ⟨[.type "enumerate",.ref l],[]⟩) (λ_ R s=>s.heap.get? l=some {cls:=.type "tuple",dict:=dct,data:=.seq items n,slots:=sl}/\
   R (.ok (.ret (.ref (s.heap.push {cls:=.type "tuple_iterator",data:=.fields #[.ref l,.int 0 0]}).objs.size)))
    {s with heap:=(s.heap.push {cls:=.type "tuple_iterator",data:=.fields #[.ref l,.int 0 0]}).push {cls:=.type "enumerate",data:=.fields #[.none,.bool false,.ref s.heap.objs.size,rawInt 0,.none,.none]}}):=
 .of_wp λprog w A R s h=>by
  obtain⟨hp,g,d,tk,os⟩:=s;obtain⟨hl,h⟩:=h;have hsub:=sub_enumerate;have hT:Heap.IsTuple (Shared.heap ⟨hp,g,d,tk,os⟩) l items:=⟨_,hl,rfl,n,rfl⟩
  wp_walk using wpAny_loadPart' hl
  refine wpAny_stack_any λst=>yN ?_;split
  ·rename_i c _ _ _ _ _
   cases (c==Value.type "enumerate")
   ·wp_walk using wpAny_loadPart' hl,wpAny_pyIter_tuple hT
    exact⟨_,rfl,h⟩
   ·wp_walk using wpAny_loadPart' hl,wpAny_pyIter_tuple hT
    exact⟨_,rfl,h⟩
  ·wp_walk using wpAny_loadPart' hl,wpAny_pyIter_tuple hT
   exact⟨_,rfl,h⟩
section
variable{prog:Program}{w:World}{A:Around}{E:Value->Shared->Prop}{s:Shared}
theorem cR(hL:s.heap.IsTuple l items)
  (h:∀h',IsEnum h' (s.heap.objs.size+1) s.heap.objs.size 0 .none->h'.IsTupleIter s.heap.objs.size l 0->h'.objs.size=s.heap.objs.size+2->
   (∀b o,s.heap.get? b=some o->h'.get? b=some o)->Q (.ref (s.heap.objs.size+1)) {s with heap:=h'}):
  wpAny (model prog w) A (call (.type "enumerate") [.ref l]) Q E s:=by
 obtain⟨⟨c,dct,dt,sl⟩,hl,hc,n,hd⟩:=hL;replace hc:c=.type "tuple":=hc;replace hd:dt=.seq items n:=hd;subst hc hd;refine callType_new F.called_enumerate (by decide) (F.typeCall_enumerate_1 _) (F.newCall_enumerate_1 _) (λobj=>F.args_object_init_2 obj _) F.entry_enumerate_new
  (cM l items n dct sl) ⟨hl,?_⟩
 have hz:(s.heap.push {cls:=.type "tuple_iterator",data:=.fields #[.ref l,.int 0 0]}).objs.size=s.heap.objs.size+1:=Heap.size_push ..;show _/\_;rw[hz];have he:IsEnum ((s.heap.push {cls:=.type "tuple_iterator",data:=.fields #[.ref l,.int 0 0]}).push
   {cls:=.type "enumerate",data:=.fields #[.none,.bool false,.ref s.heap.objs.size,rawInt 0,.none,.none]}) (s.heap.objs.size+1) s.heap.objs.size 0 .none:=by
  have:=y9 (s.heap.push {cls:=.type "tuple_iterator",data:=.fields #[.ref l,.int 0 0]})
   (o:={cls:=.type "enumerate",data:=.fields #[.none,.bool false,.ref s.heap.objs.size,rawInt 0,.none,.none]}) rfl
  rw[hz] at this;exact this
 refine⟨⟨_,he,rfl⟩,h _ he ⟨_,yO _ (y9 _ rfl),rfl,rfl⟩ (by rw[Heap.size_push,hz]) λb o x=>yO _ (yO _ x)⟩
theorem fW{items}(hit:s.heap.IsTupleIter it t i)
  (ht:s.heap.IsTuple t items) (hx:items[i]?=some x)
  (hQ:∀h',h'.IsTupleIter it t (i+1)->Heap.SameBut it s.heap h'->Q x {s with heap:=h'}):
  wpAny (model prog w) A (Builtin.SmallTypes.nextOf (.ref it)) Q E s:=by
 obtain⟨o,ho,hc,hd⟩:=id hit;obtain⟨ol,hol,_,nl,hdl⟩:=ht;unfold Builtin.SmallTypes.nextOf;refine gV (aAF (name:=Str.ofString "__next__") hit.typeIs F.slot_tuple_iterator_next
  (zZ F.slot_tuple_iterator_next hit.typeIs F.entry_tuple_iterator_next ?_ (F.args_tuple_iterator_next_1 _)))
 show wpAny _ _ (field (.ref it) 0>>=_) _ _ s;refine gV (z7 ho hd (x:=.ref t) rfl ?_);show wpAny _ _ (if(Value.ref t==Value.none)=true then _ else _) _ _ s;rw[yK (show¬((Value.ref t==Value.none)=true) from yL)];show wpAny _ _ (field (.ref it) 1>>=_) _ _ s;refine gV (z7 ho hd (x:=.int i 0) rfl ?_);show wpAny _ _ (seqItems? (.ref t)>>=_) _ _ s;refine gV (wpAny_seqItems hol hdl ?_);simp only[aAH,hx];refine gV (wpAny_setField ho hd (by simp) (yN ⟨x,rfl,yN (hQ _ ?_ (Heap.SameBut.update ..))⟩));exact⟨_,Heap.get?_update_self _ ho (Obj.isFreed_of_fields (Obj.data_mapFields hd _)),(Obj.cls_mapFields ..).trans hc,by
  rw[Obj.data_mapFields hd];simp[rawInt]⟩
theorem gS{it t:Addr}{i:Nat}{items}{Q:Value->Shared->Prop}(hh:A.handled=none)
  (hit:s.heap.IsTupleIter it t i) (ht:s.heap.IsTuple t items) (hx:items[i]?=none)
  (hE:∀h' e,Heap.ExtBut it s.heap h'->(∃o,h'.get? e=some o/\o.cls=.type "StopIteration")->E (.ref e) {s with heap:=h'}):
  wpAny (model prog w) A (Builtin.SmallTypes.nextOf (.ref it)) Q E s:=by
 obtain⟨o,ho,hc,hd⟩:=id hit;obtain⟨ol,hol,_,nl,hdl⟩:=ht;unfold Builtin.SmallTypes.nextOf;refine gV (aAF (name:=Str.ofString "__next__") hit.typeIs F.slot_tuple_iterator_next
  (zZ F.slot_tuple_iterator_next hit.typeIs F.entry_tuple_iterator_next ?_ (F.args_tuple_iterator_next_1 _)))
 show wpAny _ _ (field (.ref it) 0>>=_) _ _ s;refine gV (z7 ho hd (x:=.ref t) rfl ?_);show wpAny _ _ (if(Value.ref t==Value.none)=true then _ else _) _ _ s;rw[yK (show¬((Value.ref t==Value.none)=true) from yL)];show wpAny _ _ (field (.ref it) 1>>=_) _ _ s;refine gV (z7 ho hd (x:=.int i 0) rfl ?_);show wpAny _ _ (seqItems? (.ref t)>>=_) _ _ s;refine gV (wpAny_seqItems hol hdl ?_);simp only[aAH,hx];refine gV (wpAny_rule (gV (wpAny_setField ho hd (by simp) ?_)));show wpAny _ _ (newExc (.type "StopIteration") []>>=_) _ _ _;refine gV ?_;simp only[newExc,newTuple];refine gV (aAB ?_ (by size_fits));refine gV (m:=firstArgMember _ _) (wpAny_of_eq (a:=Value.none) (by first|rfl|(simp only[firstArgMember];rfl)) ?_);refine aAB ?_ (by size_fits);simp only[raiseNew];refine gV (wpAny_handled ?_)
 first|rw[show A.in1.handled=none from hh]|rw[hh]
 refine gV (yN (wpAny_throw ?_));exact hE _ _ (((Heap.SameBut.update ..).extBut.push _).push _) ⟨_,y9 _ rfl,rfl⟩
theorem jB{i:Nat}{Q:Value->Shared->Prop}
  (he:IsEnum s.heap e it i old) (hit:s.heap.IsTupleIter it l i) (hl:s.heap.IsTuple l items) (hx:items[i]?=some x) (hne:e≠it)
  (hQ:∀h',IsEnumOut h' e it ((i:Int)+1) x s.heap.objs.size->h'.IsTupleIter it l (i+1)->
   h'.get? s.heap.objs.size=some {cls:=.type "tuple",data:=.seq #[.int i s.toks,x]}->h'.objs.size=s.heap.objs.size+1->
   (∀b o,b≠e->b≠it->s.heap.get? b=some o->h'.get? b=some o)->Q (.ref s.heap.objs.size) {s with heap:=h',toks:=s.toks+1}):
  wpAny (model prog w) A (Builtin.«enumerate.__next__» ⟨[.ref e],[]⟩) (λfin s'=>∃v,fin=.done (.ret v)/\Q v s') E s:=by
 obtain⟨hp,g,d,tk,os⟩:=s;show wpAny _ _ (field (.ref e) 2>>=_) _ _ _;refine gV (z7 he rfl (x:=.ref it) rfl ?_);refine gV (fW hit hl hx λh₁ hit₁ hs₁=>?_);replace hs₁:Heap.SameBut it hp h₁:=hs₁;have he₁:IsEnum h₁ e it i old:=(hs₁.2 e hne).trans he;show wpAny _ _ (field (.ref e) 3>>=_) _ _ ⟨h₁,g,d,tk,os⟩;refine gV (z7 he₁ rfl (x:=rawInt i) rfl ?_);show wpAny _ _ (field (.ref e) 4>>=_) _ _ ⟨h₁,g,d,tk,os⟩;refine gV (z7 he₁ rfl (x:=.none) rfl ?_);show wpAny _ _ (mkInt i>>=_) _ _ ⟨h₁,g,d,tk,os⟩;refine gV (wpAny_mkInt ?_);show wpAny _ _ (setField (.ref e) 3 (rawInt ((i:Int)+1))>>=_) _ _ ⟨h₁,g,d,tk+1,os⟩;refine gV (aAI he₁ (by simp) λh₂ he₂ hs₂=>?_);replace hs₂:Heap.SameBut e h₁ h₂:=hs₂;replace he₂:IsEnum h₂ e it ((i:Int)+1) old:=he₂;show wpAny _ _ (setField (.ref e) 4 .none>>=_) _ _ ⟨h₂,g,d,tk+1,os⟩;refine gV (aAI he₂ (by simp) λh₃ he₃ hs₃=>?_);replace hs₃:Heap.SameBut e h₂ h₃:=hs₃;replace he₃:IsEnum h₃ e it ((i:Int)+1) old:=he₃;show wpAny _ _ (newTuple [.int i tk,x]>>=_) _ _ ⟨h₃,g,d,tk+1,os⟩;refine gV (wpAny_newTuple ?_);have he₄:IsEnum (h₃.push {cls:=.type "tuple",data:=.seq #[.int i tk,x]}) e it ((i:Int)+1) old:=yO _ he₃;generalize hh₄:h₃.push {cls:=.type "tuple",data:=.seq #[.int i tk,x]}=h₄ at he₄;have hsz:h₃.objs.size=hp.objs.size:=by rw[hs₃.1,hs₂.1,hs₁.1]
 have hel:e<hp.objs.size:=yV he;have ht₄:h₄.get? hp.objs.size=some {cls:=.type "tuple",data:=.seq #[.int i tk,x]}:=by rw[←hh₄,←hsz];exact y9 _ rfl
 have hz₄:h₄.objs.size=hp.objs.size+1:=by rw[←hh₄,Heap.size_push,hsz]
 have hk₄:∀b o,b≠e->b≠it->hp.get? b=some o->h₄.get? b=some o:=λb o hbe hbi hb=>by
  rw[←hh₄];exact yO _ (hs₃.extBut b o hbe (hs₂.extBut b o hbe (hs₁.extBut b o hbi hb)))
 have hit₄:h₄.IsTupleIter it l (i+1):=by
  rw[←hh₄];obtain⟨o,ho,r⟩:=(hit₁.extBut hs₂.extBut (zL hne)).extBut hs₃.extBut (zL hne);exact⟨o,yO _ ho,r⟩
 show wpAny _ _ (Builtin.SmallTypes.ownedTupleIsFree (.ref e)>>=_) _ _ ⟨h₄,g,d,tk+1,os⟩;rw[hsz];clear hh₄ he₃ hs₃ he₂ hs₂ he₁ hs₁ hit₁ hsz h₃ h₂ h₁;refine gV ?_
 ·unfold Builtin.SmallTypes.ownedTupleIsFree
  refine gV (z7 he₄ rfl (x:=.none) rfl (yN ?_));simp only[yT];refine gV (wpAny_rule ?_);refine gV (z7 he₄ rfl (x:=old) rfl ?_);refine gV (aAI he₄ (by simp) λh₅ he₅ hs₅=>?_);replace hs₅:Heap.SameBut e h₄ h₅:=hs₅;replace he₅:IsEnum h₅ e it ((i:Int)+1) x:=he₅;show wpAny _ _ (Builtin.SmallTypes.ownedTupleHandOut (.ref e) (.ref hp.objs.size)>>=_) _ _ ⟨h₅,g,d,tk+1,os⟩;refine gV ?_
  ·unfold Builtin.SmallTypes.ownedTupleHandOut
   refine gV (aAI he₅ (by simp) λh₆ he₆ hs₆=>?_);replace hs₆:Heap.SameBut e h₅ h₆:=hs₆;replace he₆:IsEnumOut h₆ e it ((i:Int)+1) x hp.objs.size:=he₆;refine aAI he₆ (by simp) λh₇ he₇ hs₇=>?_;replace hs₇:Heap.SameBut e h₆ h₇:=hs₇;replace he₇:IsEnumOut h₇ e it ((i:Int)+1) x hp.objs.size:=he₇;refine gV (wpAny_letGo (yN ⟨_,rfl,hQ h₇ he₇ ?_ ?_ ?_ ?_⟩))
   ·exact((hit₄.extBut hs₅.extBut (zL hne)).extBut hs₆.extBut (zL hne)).extBut hs₇.extBut (zL hne)
   ·exact hs₇.extBut _ _ (aAR hel) (hs₆.extBut _ _ (aAR hel) (hs₅.extBut _ _ (aAR hel) ht₄))
   ·rw[hs₇.1,hs₆.1,hs₅.1,hz₄]
   ·exact λb o hbe hbi hb=>hs₇.extBut b o hbe (hs₆.extBut b o hbe (hs₅.extBut b o hbe (hk₄ b o hbe hbi hb)))
theorem fX{e it l:Addr}{i:Nat}{items:Array Value}{x old:Value}{Q:Option Value->Shared->Prop}
  (he:IsEnum s.heap e it i old) (hit:s.heap.IsTupleIter it l i) (hl:s.heap.IsTuple l items) (hx:items[i]?=some x) (hne:e≠it)
  (hQ:∀h',IsEnumOut h' e it ((i:Int)+1) x s.heap.objs.size->h'.IsTupleIter it l (i+1)->
   h'.get? s.heap.objs.size=some {cls:=.type "tuple",data:=.seq #[.int i s.toks,x]}->h'.objs.size=s.heap.objs.size+1->
   (∀b o,b≠e->b≠it->s.heap.get? b=some o->h'.get? b=some o)->Q (some (.ref s.heap.objs.size)) {s with heap:=h',toks:=s.toks+1}):
  wpAny (model prog w) A (pyNext (.ref e)) Q E s:=by
 have hT:s.TypeIs (.ref e) "enumerate":=⟨_,he,rfl⟩
 unfold pyNext;exact gV (wpAny_attempt (aAF (name:=Str.ofString "__next__") hT F.slot_enumerate_next
  (zZ F.slot_enumerate_next hT F.entry_enumerate_next
   (jB he hit hl hx hne λh' a b c d k=>yN (hQ h' a b c d k)) (F.args_enumerate_next_1 _))))
theorem cN{i:Nat}(hh:A.handled=none)
  (he:IsEnum s.heap e it i old) (hit:s.heap.IsTupleIter it l i) (hl:s.heap.IsTuple l items) (hx:items[i]?=none)
  (hQ:∀h',Heap.ExtBut it s.heap h'->Q none {s with heap:=h'}):wpAny (model prog w) A (pyNext (.ref e)) Q E s:=by
 have hT:s.TypeIs (.ref e) "enumerate":=⟨_,he,rfl⟩
 unfold pyNext;refine gV (wpAny_attempt (aAF (name:=Str.ofString "__next__") hT F.slot_enumerate_next
  (zZ F.slot_enumerate_next hT F.entry_enumerate_next ?_ (F.args_enumerate_next_1 _))))
 show wpAny _ _ (field (.ref e) 2>>=_) _ _ _;refine gV (z7 he rfl (x:=.ref it) rfl ?_);refine gV (gS hh hit hl hx λh' x he' hx'=>?_);obtain⟨o,ho,hc⟩:=hx';refine gV (wpAny_isInstance (T:="StopIteration") (b:=true) ⟨o,ho,hc⟩ isSubtype_stop ?_);exact yN (hQ _ he')
end
end PySem
namespace L2
open PySem PySem.Spec PyProof.Rows
noncomputable def Ite(K:PySem.W.Frag)(a:Addr):It:=
 ⟨λi H=>∃xs x,SqT K H a xs/\xs[i]?=some x,λi H v H'=>∃t x,H t=none/\v=.ref t/\H'=upd H t (.tup [.int i,x])/\∀xs,SqT K H a xs->xs[i]?=some x,λi H=>∃xs,SqT K H a xs/\xs.length<=i⟩
theorem sV{P:Program}{w:World}{K:PySem.W.Frag}{elts:List Expr}{k:Nat}{pos:Pos}(a e it:Addr)(hne:e≠it):
  Turn P w K (.Tuple elts k pos) (Ite K a) [e,it] e (λi h=>(∃old,IsEnum h e it (i:Int) old)/\h.IsTupleIter it a i) where
 mem:=by simp
 obj:=λi h st b hb=>by
  obtain⟨⟨old,he⟩,o,ho,c,d⟩:=st;rcases List.mem_cons.mp hb with z|z
  ·subst z
   exact⟨_,he,λv z=>by cases (show Data.fields _=Data.cell v from z)⟩
  ·have z:b=it:=by simpa using z
   subst z;exact⟨o,ho,λv z=>by rw[d] at z;cases z⟩
 keep:=λi h h' st kp=>by
  obtain⟨⟨old,he⟩,o,ho,c,d⟩:=st;exact⟨⟨old,kp e (by simp) _ he⟩,o,kp it (by simp) o ho,c,d⟩
 item:=by
  intro X hP hw hK hc i pins s σ H E I hf st hg;subst hP hw hK;obtain⟨⟨old,he⟩,hit⟩:=st;obtain⟨xs,x,hq,hx⟩:=hg;obtain⟨its,rv,p,hz⟩:=I.tuple hq;obtain⟨u,hu,ru⟩:=rv.get hx;obtain⟨e0,e1,e2,e3,e4,e5⟩:=hf e (by simp);obtain⟨i0,i1,i2,i3,i4,i5⟩:=hf it (by simp);refine fX he hit (show s.heap.IsTuple a its.toArray from p) (x:=u) (by simpa using hu) hne λh' heo hit' hnew hsz kk=>?_;refine⟨_,rfl,?_⟩;refine wpAny_letOwnedTupleGo_enum (s:={s with heap:=h',toks:=s.toks+1}) heo λh2 he2 sb=>?_;have hnew2:h2.get? s.heap.objs.size=some {cls:=.type "tuple",data:=.seq #[.int i s.toks,u]}:=sb.extBut _ _ (aAR (yV he)) hnew;have hfr:H s.heap.objs.size=none:=I.hok.fresh (yP _);have kk2:∀b o,b≠e->b≠it->s.heap.get? b=some o->h2.get? b=some o:=λb o h1 h2 h3=>sb.extBut b o h1 (kk b o h1 h2 h3);have hit2:h2.IsTupleIter it a (i+1):=hit'.extBut sb.extBut (zL hne);have ch:∀b∈[e,it],(b∈X.ex\/X.s₀.heap.objs.size<=b)/\b≠X.env.locals/\(∀x c,X.env.cells.lookup x=some c->c≠b)/\∀p∈X.pn++pins,p.1≠b:=λb hb=>⟨(hf b hb).2.2.2.1,(hf b hb).2.1,(hf b hb).2.2.2.2.1,(hf b hb).2.2.2.2.2⟩
  have nb:∀b o,b∉[e,it]->s.heap.get? b=some o->h2.get? b=some o:=λb o hb q=>kk2 b o (λz=>hb (by simp[z])) (λz=>hb (by simp[z])) q;have ne_t:∀b u,H b=some u->b≠s.heap.objs.size:=λb u z=>by intro y;rw[y,hfr] at z;cases z
  have u1:Un (frs X.stack) [e,it] H (upd H s.heap.objs.size (.tup [.int i,x])) s.heap h2:=by
   refine⟨λb o q n _ hb=>nb b o hb q,λb o q n _ hb=>⟨o.slots,nb b o hb q⟩,λb o q n hb=>?_,λb o q hb=>⟨o,nb b o hb q⟩,λb ys q=>?_,λb o u q=>?_,λb ps q=>⟨#[],?_⟩⟩
   ·rw[aA (zP (yV q))];exact n
   ·rw[aA (ne_t b _ q)];exact q
   ·rw[aA (ne_t b _ q)];exact q
   ·rw[aA (ne_t b _ q),q];simp
  have nfp:∀b u,H b=some u->b∉[e,it]:=λb u q hb=>by
   rcases List.mem_cons.mp hb with z|z
   ·rw[z,e0] at q;cases q
   ·have z:b=it:=by simpa using z
    rw[z,i0] at q;cases q
  have hok:HOk X.prog X.w (upd H s.heap.objs.size (.tup [.int i,x])) h2:=by
   intro b u q;by_cases hb:b=s.heap.objs.size
   ·subst hb
    rw[upd_same] at q;cases q;exact⟨by show 2<=sizeLine;decide,[.int i s.toks,u],.cons ⟨_,rfl⟩ (.cons ru .nil),_,hnew2,rfl,_,rfl⟩
   ·rw[aA hb] at q
    refine(I.hok b u q).stay (λc v hc r=>nb c v ?_ r) (λc r=>by rw[aA (ne_t c _ r)];exact r) λc ys r=>by rw[aA (ne_t c _ r)];exact r
    rcases hc with z|z
    ·rw[z];exact nfp b u q
    ·exact nfp c _ z
  have I2:Inv X pins σ (upd H s.heap.objs.size (.tup [.int i,x])) {s with heap:=h2,toks:=s.toks+1}:=I.call (g':=s.gens) (d':=s.drawn) (t':=s.toks+1) (ch:=[e,it]) u1 hok I.bare ch;refine⟨.ref s.heap.objs.size,_,I2,rfl,⟨_,x,hfr,rfl,rfl,λys hy=>by rw[I.tuple_inj hy hq];exact hx⟩,⟨⟨u,?_⟩,hit2⟩,λb hb=>?_⟩
  ·have:=he2
   rw[show((i:Int)+1)=((i+1:Nat):Int) by omega] at this;exact this
  ·have hlt:b<s.heap.objs.size:=by
    rcases List.mem_cons.mp hb with z|z
    ·rw[z];exact yV he
    ·have z:b=it:=by simpa using z
     rw[z];obtain⟨o,ho,_⟩:=hit;exact yV ho
   rw[aA (zP hlt)];exact(hf b hb).1
 done:=by
  intro X hP hw hK hc i pins s σ H E I hf st hg;subst hP hw hK;obtain⟨⟨old,he⟩,hit⟩:=st;obtain⟨xs,hq,hx⟩:=hg;obtain⟨its,rv,p,hz⟩:=I.tuple hq;obtain⟨i0,i1,i2,i3,i4,i5⟩:=hf it (by simp);have hl:=rv.length;exact cN (I.ok.hd hc) he hit (show s.heap.IsTuple a its.toArray from p) (by simp;omega) λh' eb=>⟨rfl,I.turned (t':=s.toks) (λb o hb e=>eb b o hb e) i0 i1 i3 i4 i5⟩
 self:=λ_ _ _ _ _ st h=>by
  obtain⟨⟨old,he⟩,_⟩:=st;exact wpAny_pyIter_enum he h
theorem sW:bootBuiltins "enumerate"=some (.type "enumerate"):=by first|exact PySem.boot_enumerate|rfl|decide+kernel
noncomputable def iEnum(K:PySem.W.Frag)(ta:TA):TI:=λσ H R=>ta σ H λvs H1=>∃a,vs=[.ref a]/\(∃xs,SqT K H1 a xs)/\R (Ite K a) H1
theorem pi_enum(hg:Gl X "enumerate")(hm:X.mg "enumerate"=none)(ha:PA X [l] ta)(hs:starEach [l] X.env=[(false,eval l X.env)]):
  PI X (.Tuple elts k tpos) (.Call (.Name "enumerate" p) [l] [] pos) (iEnum X.K ta):=by
 intro pins s σ H R I h;refine Call_ (eG I hg hm sW (PyProof.Rows.callWith_type1 (thn (ha pos pins s σ H _ I h) λus s1 qQ=>?_) hs rfl));obtain⟨vs,H1,I1,r1,q1⟩:=qQ;obtain⟨a,e,⟨xs,hq⟩,q⟩:=q1;subst e
 cases r1 with
 |cons r rr=>
  cases rr;cases r;obtain⟨its,rv,pt,hz⟩:=I1.tuple hq;refine cR (show s1.heap.IsTuple a its.toArray from pt) λh' he hit hsz kk=>?_;refine wpAny_pyIter_enum (s:={s1 with heap:=h'}) he ?_;have I2:Inv X pins σ H1 {s1 with heap:=h'}:=I1.kept (t':=s1.toks) kk;refine⟨s1.heap.objs.size+1,[s1.heap.objs.size+1,s1.heap.objs.size],_,_,H1,rfl,I2,sV a _ _ (aAR (Nat.lt_succ_self _)),⟨⟨_,he⟩,hit⟩,λb hb=>?_,q⟩;have hle:s1.heap.objs.size<=b:=by
   rcases List.mem_cons.mp hb with z|z
   ·rw[z];exact Nat.le_succ _
   ·have z:b=s1.heap.objs.size:=by simpa using z
    rw[z];exact yP _
  exact I1.fpOk hle (I1.hok.fresh hle)
theorem vB{ws:List Value}(ht:IsTup s.heap t ([]:List Value).toArray)(hb:IsTup s.heap b ws.toArray)
  (h:Q (.ref b) s):wpAny (model prog w) A (binaryOp .Add (.ref t) (.ref b)) Q E s:=by
 obtain⟨⟨cls,dd,data,sl⟩,ho,hc,n,hd⟩:=id ht;obtain⟨⟨cls2,dd2,data2,sl2⟩,ho2,hc2,n2,hd2⟩:=id hb;simp only at hc hd hc2 hd2;subst hc hd hc2 hd2;exact concat_meets ⟨_,ho,rfl⟩ ⟨_,ho2,rfl⟩ noFill_tuple_add seq_tuple_add PySem.F.slot_tuple_add PySem.F.entry_tuple_add (PySem.F.args_tuple_add_2 _ _)
   (tuple_addW0 t b ([]:List Value).toArray ws.toArray n n2 dd dd2 sl sl2 (by simp)) ⟨ho,ho2,h⟩
noncomputable def rCatTW(K:PySem.W.Frag):R2:=λx y H Q=>∃a b xs ys,x=.ref a/\y=.ref b/\SqT K H a xs/\SqT K H b ys/\xs.length+ys.length<=sizeLine/\
 (xs=[]->Q (.ref b) H)/\(xs≠[]->ys=[]->Q (.ref a) H)/\(xs≠[]->ys≠[]->∀p,H p=none->Q (.ref p) (upd H p (.tup (xs++ys))))
theorem vC:OpR X (binaryOp .Add) (rCatTW X.K):=by
 intro pins s σ H x y v u Q I rx ry h;obtain⟨a,b,xs,ys,rfl,rfl,ha,hb,hz,q0,q1,q2⟩:=h;by_cases hx:xs=[]
 ·cases rx
  cases ry;obtain⟨its,r1,p1,_⟩:=I.tuple ha;obtain⟨its2,r2,p2,_⟩:=I.tuple hb;have e:its=[]:=r1.nil_iff.mpr hx;subst e;exact vB p1 p2 ⟨.ref b,H,I,rfl,q0 hx⟩
 ·exact op_catT pins s σ H (.ref a) (.ref b) v u Q I rx ry ⟨a,b,xs,ys,rfl,rfl,ha,hb,hx,hz,q1 hx,q2 hx⟩
theorem dP{lo hi:Option Int}
  (ht:IsTup s.heap t items) (hs:s.heap.IsSliceOf sl vl vu .none) (pl:IsPart vl lo) (pu:IsPart vu hi)
  (hw:HT.sIx items.size 0 lo=0/\HT.sIx items.size items.size hi=items.size) (h:Q (.ref t) s):wpAny (model prog w) A (getItem (.ref t) (.ref sl)) Q E s:=by
 obtain⟨os,hos,hcs,hds⟩:=id hs;have hTs:s.TypeIs (.ref sl) "slice":=⟨os,hos,hcs⟩
 unfold getItem
 try with_reducible refine wpAny_holding ?_
 first|refine gV (yN ?_)|skip
 refine gV (wpAny_sequenceKey ht.typeIs (by decide) ?_);refine gV (aAF (name:=Str.ofString "__getitem__") ht.typeIs PyProof.Rows.slot_tuple_getitem
  (zZ PyProof.Rows.slot_tuple_getitem ht.typeIs PyProof.Rows.entry_tuple_getitem ?_ (PyProof.Rows.args_tuple_getitem _ _)))
 show wpAny _ _ (Builtin.Tuple.tupleItemsOf (.ref t)>>=_) _ _ s;refine gV (PyProof.Rows.tupleItemsOf_ ht ?_);refine gV (wpAny_typeOf hTs ?_);rw[yM (by decide)];refine gV (HT.sliceApplied_gen hs pl pu ?_);have hyes:(((HT.sIx items.size 0 lo:Nat):Int)==0&&(1:Int)==1&&(HT.sIx items.size items.size hi-HT.sIx items.size 0 lo)==items.size)=true:=by
  rw[hw.1,hw.2];simp
 show wpAny _ _ (if(((HT.sIx items.size 0 lo:Nat):Int)==0&&(1:Int)==1&&(HT.sIx items.size items.size hi-HT.sIx items.size 0 lo)==items.size)=true then _ else _) _ _ s;rw[yM hyes];obtain⟨o,ho,hc,n,hd⟩:=ht;have hT:s.TypeIs (.ref t) "tuple":=⟨o,ho,hc⟩
 unfold Builtin.Tuple.tupleIsExact;refine gV (gV (wpAny_typeOf hT (yN ?_)));rw[yM (by simp)];exact gV (wpAny_rule (yN ⟨_,rfl,yN h⟩))
noncomputable def rSlTW(K:PySem.W.Frag):V->Option Int->Option Int->Hp->VK->Prop:=λx lo hi H Q=>∃a xs,x=.ref a/\SqT K H a xs/\
 (HT.sIx xs.length 0 lo=0/\HT.sIx xs.length xs.length hi=xs.length)/\Q (.ref a) H
theorem sl_tupW:SlR X (rSlTW X.K):=by
 intro pins s σ H x v vl vu lo hi sl Q I rx hs pl pu h;obtain⟨a,xs,rfl,hx,hw,q⟩:=h;cases rx;obtain⟨its,r,ht,hz⟩:=I.tuple hx;have hlen:its.toArray.size=xs.length:=by rw[yW];exact r.length.symm
 refine⟨"tuple",_,PyProof.Rows.slot_tuple_getitem.lookup,ht.typeIs,?_⟩;exact dP ht hs pl pu (by rw[hlen];exact hw) ⟨.ref a,H,I,rfl,q⟩
theorem Vals.getElem(r:Vals xs us)(h:i<us.length):∃x,xs[i]?=some x/\RelV x us[i]:=by
 have h':i<xs.length:=by rw[r.length];exact h
 obtain⟨u,hu,ru⟩:=r.get (i:=i) (x:=xs[i]) (by simp[h']);have:us[i]=u:=by simpa[h] using hu
 exact⟨xs[i],by simp[h'],by rw[this];exact ru⟩
noncomputable def rIndex:V->List V->Hp->VK->Prop:=λx vs H Q=>∃(l:Addr)(xs:List V)(y:V)(j:Nat)(z:V),x=.ref l/\vs=[y]/\H l=some (.lst xs)/\flatV y=true/\xs.all flatV=true/\xs[j]?=some z/\eqV z y=true/\(∀(k:Nat) z',k<j->xs[k]?=some z'->eqV z' y=false)/\Q (.int j) H
theorem vD:MtR X "list.index" rIndex:=by
 intro pins s σ H x vs v us Q I rx rv h;obtain⟨l,xs,y,j,z,rfl,rfl,hH,fy,fs,hj,ez,hno,q⟩:=h;cases rx;obtain⟨u,rfl,ru⟩:=rv.one;obtain⟨zz,its,n,r,hl,e⟩:=I.lstM hH;have hjl:j<its.length:=by
  rw[←hl];by_cases hc:j<xs.length
  ·exact hc
  ·rw[aAL (by omega)] at hj;cases hj
 have hn:=line63;have at':∀k (hk:k<its.toArray.size),∃w,xs[k]?=some w/\eqU y its.toArray[k]=eqV w y:=λk hk=>by
  have hk':k<its.length:=by simpa using hk
  obtain⟨w,hw,rw'⟩:=r.getElem hk';refine⟨w,hw,?_⟩;have hm:w∈xs:=aAA hw;have:=oZ (x:=y) rw' (List.all_eq_true.mp fs w hm);simpa using this
 refine call_meets F.slot_list_index ⟨_,e,rfl⟩ F.entry_list_index (F.args_list_index_2 _ _) (SeqAt.list_indexAt l its.toArray n none #[] u (eqU y) j (by simpa using hjl) (by omega) ?_ ?_) ⟨e,?_,?_⟩
 ·obtain⟨w,hw,ew⟩:=at' j (by simpa using hjl)
  rw[hj] at hw;cases hw;rw[ew];exact ez
 ·intro k hk hkj
  obtain⟨w,hw,ew⟩:=at' k hk;rw[ew];exact hno k w hkj hw
 ·intro w hw
  exact dL ru fy r fs w (by simpa using hw)
 ·exact⟨.int j,H,I.tok _,⟨_,rfl⟩,q⟩
noncomputable def Fly(Nw:Addr->Prop)(h:Heap)(H:Hp)(e:Addr)(cls:Value):Prop:=
 Nw e/\H e=none/\∃oe vs,h.get? e=some oe/\(oe.cls=cls/\oe.dict=none)/\oe.data=.fields vs/\
  (vs[1]?=some .none\/∃T oT ts,vs[1]?=some (.ref T)/\Nw T/\H T=none/\T≠e/\h.get? T=some oT/\oT.data=.fields ts/\ts[3]?=some .none)
theorem Fly.mono(F:Fly N h H e cls)(s:∀b,N b->N' b):Fly N' h H e cls:=by
 obtain⟨n,he,oe,vs,h1,h2,h3,h4⟩:=F;refine⟨s _ n,he,oe,vs,h1,h2,h3,h4.imp id ?_⟩;rintro⟨T,oT,ts,a,b,r⟩;exact⟨T,oT,ts,a,s _ b,r⟩
theorem vE(f:Array Value->Array Value)(o:Obj):(Obj.mapFields f o).dict=o.dict:=by obtain⟨c,d,dt,sl⟩:=o;cases dt<;>rfl
section
variable{M:Model}{A:Around}{E:Value->Shared->Prop}{s:Shared}
theorem jO{bs:Heap}{env:Env}{outer:List Env}{L e:Addr}{oe:Obj}{vs:Array Value}{head:Value}{hn:Bool}{Q:Unit->Shared->Prop}(hfr:A.frames=some (env::outer))(hl:s.heap.FunFrames bs (env::outer))(hf:env.frame=some L)
  (he:s.heap.get? e=some oe) (hd:oe.data=.fields vs) (hsz:1<vs.size)
  (k:∀h' T oe' vs' oT ts,s.heap.get? T=none->(∀b o,s.heap.get? b=some o->b∉frs (env::outer)->b≠e->h'.get? b=some o)->(∀b o,s.heap.get? b=some o->b∈frs (env::outer)->∃sl,h'.get? b=some {o with slots:=sl})->
   h'.get? e=some oe'->(oe'.cls=oe.cls/\oe'.dict=oe.dict)->oe'.data=.fields vs'->vs'[1]?=some (.ref T)->T≠e->h'.get? T=some oT->oT.data=.fields ts->ts[3]?=some .none->Q () {s with heap:=h'}):
  wpAny M A (do let a←frameOf env;let pl←entryPlaceOf L hn;let b←EntryCells.newEntry head a .none (rawInt L) .none pl;setField (.ref e) 1 b) (λ_ s'=>wpAny M A (setFlight (.ref e) none) Q E s') E s:=by
 have ne:e∉frs (env::outer):=λhm=>by
  obtain⟨_,o,ho,nf⟩:=hl.mem hm;rw[he] at ho;cases ho;exact nf vs hd
 refine gV (wpAny_frameOf_fun hfr hl hf λh1 s1=>?_);refine gV (wpAny_entryPlaceOf λpl hpl=>?_);unfold EntryCells.newEntry newFields;refine gV (aAB ?_ (hpl.sizeOk5 _ _ _ _ _));have e1:h1.get? e=some oe:=(s1.2.1 e ne).trans he;generalize hts:([head,.ref L,.none,rawInt L,.none]++(if pl.isEmpty then List.replicate 6 Value.none else pl)).toArray=ts;have tsz:3<ts.size:=by rw[←hts];simp only[yW,yY,yJ,y7];omega
 have fresh:s.heap.get? h1.objs.size=none:=by
  cases q:s.heap.get? h1.objs.size with
  |none=>rfl
  |some o=>have:=yV q;rw[s1.1] at this;exact absurd this (aAD _)
 have e2:=yO (h:=h1) {cls:=.type "traceback",dict:=none,data:=.fields ts} e1;refine wpAny_setField e2 hd hsz ?_;have nT:h1.objs.size≠e:=aAR (yV e1);have d3:=Obj.data_mapFields hd (·.setIfInBounds 1 (Value.ref h1.objs.size));have e3:=Heap.get?_update_self (Obj.mapFields (·.setIfInBounds 1 (Value.ref h1.objs.size))) e2 (Obj.isFreed_of_fields d3);have t3:=(aAC (h1.push {cls:=.type "traceback",dict:=none,data:=.fields ts}) (Obj.mapFields (·.setIfInBounds 1 (Value.ref h1.objs.size))) (zL nT)).trans (y9 h1 rfl);unfold setFlight;refine gV (z7 e3 d3 (x:=.ref h1.objs.size) (by simp[hsz]) ?_);rw[yM (show(Value.ref h1.objs.size !=Value.none)=true from by simp)];refine wpAny_setField t3 rfl tsz (k _ h1.objs.size _ _ _ _ fresh (λb o hb nb nbe=>?_) (λb o hb mb=>?_) ?_ ⟨Obj.cls_mapFields _ _,vE _ _⟩ d3 (by simp[hsz]) nT (Heap.get?_update_self _ t3 (Obj.isFreed_of_fields (Obj.data_mapFields rfl _))) (Obj.data_mapFields rfl _) (by simp[tsz]))
 ·have hb1:h1.get? b=some o:=(s1.2.1 b nb).trans hb
  rw[aAC _ _ (aAR (yV hb1)),aAC _ _ (zL nbe)];exact yO _ hb1
 ·obtain⟨sl,hb1⟩:=s1.2.2 b o hb
  refine⟨sl,?_⟩;rw[aAC _ _ (aAR (yV hb1)),aAC _ _ (λz=>ne (by rw[z];exact mb))];exact yO _ hb1
 ·rw[aAC _ _ nT];exact e3
structure Noted(fs ch:List Addr)(h h':Heap):Prop where
 keep:∀b o,h.get? b=some o->b∉fs->b∉ch->h'.get? b=some o
 slot:∀b o,h.get? b=some o->b∈fs->∃sl,h'.get? b=some {o with slots:=sl}
 there:∀b o,h.get? b=some o->∃o',h'.get? b=some o'
noncomputable def Recs(Nw:Addr->Prop)(h:Heap)(H:Hp)(ch:List Addr):Prop:=∀b∈ch,Nw b/\H b=none/\∃o ws,h.get? b=some o/\o.data=.fields ws
theorem vF(hfr:A.frames=some (env::outer))(hl:s.heap.FunFrames bs (env::outer))(hf:env.frame=some L)
  (F:Fly Nw s.heap H e cls) (hN:∀b,s.heap.get? b=none->Nw b) (hH:∀b,s.heap.get? b=none->H b=none)
  (k:∀h' ch,Recs Nw s.heap H ch->Fly Nw h' H e cls->Noted (frs (env::outer)) ch s.heap h'->Q () {s with heap:=h'}):
  wpAny M A (noteFrame (.ref e) env) (λ_ s'=>wpAny M A (setFlight (.ref e) none) Q E s') E s:=by
 obtain⟨n,he0,oe,vs,he,⟨hc,hdn⟩,hd,tr⟩:=F;subst hc;unfold noteFrame;simp only[hf];rcases tr with h1|⟨T,oT,ts,h1,nT,hT0,hTe,hT,hdT,h3⟩
 ·refine gV (z7 he hd h1 ?_)
  rw[yK (by decide)];refine jO hfr hl hf he hd (Array.getElem?_eq_some_iff.mp h1).1 λh' T oe' vs' oT ts nT kp sl a1 a2 a3 a4 a5 a6 a7 a8=>?_;refine k h' [e] (λb hb=>by rw[List.mem_singleton.mp hb];exact⟨n,he0,oe,vs,he,hd⟩) ⟨n,he0,oe',vs',a1,⟨a2.1,a2.2.trans hdn⟩,a3,.inr ⟨T,oT,ts,a4,hN T nT,hH T nT,a5,a6,a7,a8⟩⟩ ⟨λb o hb nb c=>kp b o hb nb λz=>c (by simp[z]),sl,λb o hb=>?_⟩;by_cases hm:b∈frs (env::outer)
  ·obtain⟨_,q⟩:=sl b o hb hm;exact⟨_,q⟩
  ·by_cases hbe:b=e
   ·exact⟨oe',by rw[hbe];exact a1⟩
   ·exact⟨o,kp b o hb hm hbe⟩
 ·refine gV (z7 he hd h1 ?_)
  rw[yM (show(Value.ref T !=Value.none)=true from by simp)];refine gV (z7 hT hdT h3 ?_);rw[yK (show¬((Value.none==rawInt L)=true) from by simp[rawInt])];refine gV (wpAny_setField hT hdT (Array.getElem?_eq_some_iff.mp h3).1 ?_);have other:∀b,b≠T->(s.heap.update T (Obj.mapFields (·.setIfInBounds 3 Value.none))).get? b=s.heap.get? b:=λb hb=>aAC _ _ (zL hb);have nrec:∀b o,s.heap.get? b=some o->(∀ws,o.data≠.fields ws)->b≠T:=λb o hb nf q=>by
   rw[q,hT] at hb;cases hb;exact nf ts hdT
  have back:∀b,(s.heap.update T (Obj.mapFields (·.setIfInBounds 3 Value.none))).get? b=none->s.heap.get? b=none:=λb hb=>by
   by_cases q:b=T
   ·subst q
    rw[Heap.get?_update_self _ hT (Obj.isFreed_of_fields (Obj.data_mapFields hdT _))] at hb;cases hb
   ·rw[other b q] at hb;exact hb
  refine jO hfr (hl.of_keeps λb o hb nf=>⟨o,(other b (nrec b o hb nf)).trans hb,rfl⟩) hf ((other e (zL hTe)).trans he) hd (Array.getElem?_eq_some_iff.mp h1).1 λh' T' oe' vs' oT' ts' nT' kp sl a1 a2 a3 a4 a5 a6 a7 a8=>?_;have nTf:T∉frs (env::outer):=λhm=>by
   obtain⟨_,o,ho,nf⟩:=hl.mem hm;rw[hT] at ho;cases ho;exact nf ts hdT
  refine k h' [e,T] (λb hb=>?_) ⟨n,he0,oe',vs',a1,⟨a2.1,a2.2.trans hdn⟩,a3,.inr ⟨T',oT',ts',a4,hN T' (back _ nT'),hH T' (back _ nT'),a5,a6,a7,a8⟩⟩ ⟨λb o hb nb c=>?_,λb o hb mb=>?_,λb o hb=>?_⟩
  ·rcases List.mem_cons.mp hb with z|z
   ·rw[z];exact⟨n,he0,oe,vs,he,hd⟩
   ·rw[List.mem_singleton.mp z];exact⟨nT,hT0,oT,ts,hT,hdT⟩
  ·exact kp b o ((other b λz=>c (by simp[z])).trans hb) nb λz=>c (by simp[z])
  ·exact sl b o ((other b (by rintro rfl;exact nTf mb)).trans hb) mb
  ·by_cases hbT:b=T
   ·subst hbT
    have q:=Heap.get?_update_self (Obj.mapFields (·.setIfInBounds 3 Value.none)) hT (Obj.isFreed_of_fields (Obj.data_mapFields hdT _));exact⟨_,kp b _ q nTf hTe⟩
   ·by_cases hm:b∈frs (env::outer)
    ·obtain⟨_,q⟩:=sl b o ((other b hbT).trans hb) hm;exact⟨_,q⟩
    ·by_cases hbe:b=e
     ·exact⟨oe',by rw[hbe];exact a1⟩
     ·exact⟨o,kp b o ((other b hbT).trans hb) hm hbe⟩
end
noncomputable def CXE(P:Program)(w:World):CXT:=λouter H s E e s'=>∃a C H',e=.ref a/\s'.os=s.os/\AllBare s'.gens/\Un (frs outer) [] H H' s.heap s'.heap/\HOk P w H' s'.heap/\
 Fly (λb=>s.heap.get? b=none) s'.heap H' a (.ref C)/\E (.ref C) none H'
theorem HOk.noted(x:HOk P w H h)(n:Noted fs ch h h')(ff:∀b∈fs,H b=none)(fc:∀b∈ch,H b=none):HOk P w H h':=λa o e=>by
 refine(x a o e).stay (λb u hb q=>?_) (λ_ q=>q) λ_ _ q=>q;have tb:H b≠none:=by
  rcases hb with rfl|hb
  ·rw[e];exact Option.some_ne_none _
  ·rw[hb];exact Option.some_ne_none _
 exact n.keep b u q (λz=>tb (ff b z)) λz=>tb (fc b z)
theorem HOk.obj(x:HOk P w H h)(q:H b=some o):∃o',h.get? b=some o':=by
 have z:=x b o q
 cases o with
 |lst xs=>obtain⟨_,_,_,_,e⟩:=z;exact⟨_,e⟩
 |tup xs=>obtain⟨_,_,_,_,e,_⟩:=z;exact⟨_,e⟩
 |dK kvs=>obtain⟨_,_,_,_,o,_,_,e,_⟩:=z;exact⟨_,e⟩
 |dN kvs=>obtain⟨_,_,_,_,o,_,_,e,_⟩:=z;exact⟨_,e⟩
 |dT kvs=>obtain⟨_,_,_,_,o,_,_,e,_⟩:=z;exact⟨_,e⟩
 |set S n=>obtain⟨o,_,_,_,e,_⟩:=z;exact⟨_,e⟩
 |ins C dx fs=>obtain⟨_,_,_,e,_⟩:=z;exact⟨_,e⟩
 |own y=>obtain⟨_,e⟩:=z;exact⟨_,e⟩
 |xd fs=>obtain⟨_,⟨_,_,_,e,_⟩,_⟩:=z;exact⟨_,e⟩
 |rng lo hi=>obtain⟨_,_,_,e⟩:=z;exact⟨_,e⟩
 |frz ob u=>obtain⟨e,_⟩:=z;exact⟨_,e⟩
 |tbl ps=>exact⟨_,z⟩
 |met f y=>exact⟨_,z⟩
 |ext φ=>obtain⟨_,⟨_,e⟩,_⟩:=z;exact⟨_,e⟩
theorem HOk.new(x:HOk P w H h)(hb:h.get? b=none):H b=none:=by
 cases q:H b with
 |none=>rfl
 |some o=>
  obtain⟨o',z⟩:=x.obj q;rw[z] at hb;cases hb
noncomputable def NewIn(X:Cx):Addr->Prop:=λb=>X.s₀.heap.get? b=none/\∀p∈X.pn,p.1≠b
noncomputable def ToX(X:Cx)(cl:Nat->Addr)(XE:Nat->St->Hp->Prop):Prop:=
 ∀(pins:List (Addr×Obj))(σ:St)(H:Hp)(s:Shared)(a:Addr)(c:Nat),Inv X pins σ H s->Fly (NewIn X) s.heap H a (.ref (cl c))->XE c σ H->X.xe (.ref a) s
section
variable{P:Program}{w:World}{K:PySem.W.Frag}{mg:Str->Option Value}{base:Heap}{N:List Str}{qual:Str}{scope:Scope}{f:Addr}{cd:Value}{A:Around}{outer:List Env}{s:Shared}{H:Hp}{E:XK}{cl:Nat->Addr}
theorem qT:ToX (cxOf (CXE P w) P w K mg base N qual scope f cd A outer s H E) cl (λc _ H'=>E (.ref (cl c)) none H'):=by
 intro pins σ H1 s1 a c I F hE;show wpAny _ _ (leaving _ _) _ _ s1;unfold leaving;have F':Fly (λb=>s.heap.get? b=none) s1.heap H1 a (.ref (cl c)):=F.mono λb z=>z.1;have back:∀b,s1.heap.get? b=none->s.heap.get? b=none:=λb hb=>by
  cases q:s.heap.get? b with
  |none=>rfl
  |some o=>
   obtain⟨o',z⟩:=I.base.there b o q (λz=>nomatch z);rw[z] at hb;cases hb
 refine gV (vF (outer:=outer) I.ok.frames I.stack rfl F' back (λb hb=>I.hok.new hb) λh' ch rc F2 n=>?_);have nloc:∀b o,s.heap.get? b=some o->b∉frs outer->b∉frs ((cxOf (CXE P w) P w K mg base N qual scope f cd A outer s H E).env::outer):=λb o hb nb hm=>by
  have hm':b∈s.heap.objs.size::frs outer:=hm;rcases List.mem_cons.mp hm' with z|z
  ·subst z;exact absurd (yV hb) (aAD _)
  ·exact nb z
 have sub:∀b,b∈frs outer->b∈frs ((cxOf (CXE P w) P w K mg base N qual scope f cd A outer s H E).env::outer):=λb hb=>show b∈s.heap.objs.size::frs outer from yR _ hb;have B:Un (frs outer) [] H H1 s.heap s1.heap:=I.base;refine⟨a,cl c,H1,rfl,I.os,I.bare,⟨λb o q n1 nb nx=>?_,λb o q n1 mb nx=>?_,B.free,λb o q nx=>?_,B.tups,B.frzs,B.tbls⟩,I.hok.noted n (λb hb=>I.stkFree b hb) λb hb=>(rc b hb).2.1,F2,hE⟩
 ·exact n.keep b o (B.keep b o q n1 nb nx) (nloc b o q nb) λz=>by have y:s.heap.get? b=none:=(rc b z).1;rw[q] at y;cases y
 ·obtain⟨sl,z⟩:=B.slot b o q n1 mb nx
  obtain⟨sl',z'⟩:=n.slot b _ z (sub b mb);exact⟨sl',z'⟩
 ·obtain⟨o',z⟩:=B.there b o q nx
  exact n.there b o' z
end
section
variable{X:Cx}{cl:Nat->Addr}{XE:Nat->St->Hp->Prop}{pins:List (Addr×Obj)}{σ:St}{H:Hp}{s:Shared}
theorem Inv.newIn(I:Inv X pins σ H s)(hx:X.ex=[])(hb:s.heap.get? b=none):NewIn X b:=by
 refine⟨?_,λp hp z=>?_⟩
 ·cases q:X.s₀.heap.get? b with
  |none=>rfl
  |some o=>
   obtain⟨o',z⟩:=I.base.there b o q (by rw[hx];exact λz=>nomatch z);rw[z] at hb;cases hb
 ·have:=(I.pin p (List.mem_append_left _ hp)).1
  rw[z,hb] at this;cases this
theorem pass_of(hx:X.ex=[])(t:ToX X cl XE)(σ:St)(pins:List (Addr×Obj))(H:Hp)(s:Shared)(e:Value)(s':Shared)(I:Inv X pins σ H s)
  (z:CXE X.prog X.w X.stack H s (λk _ H'=>∃c,k=.ref (cl c)/\XE c σ H') e s'):X.xe e s':=by
 obtain⟨a,C,H',rfl,os,bare,un,hok,F,c,ec,xe⟩:=z;have ec':C=cl c:=by simpa using ec
 subst ec';exact t pins σ H' s' a c (I.call' os un hok bare λb z=>nomatch z) (F.mono λb hb=>I.newIn hx hb) xe
noncomputable def tRaise(XE:Nat->St->Hp->Prop)(c:Nat):TS:=λ_ σ H=>XE c σ H
theorem vG(hc:X.calm=true)(hx:X.ex=[])(t:ToX X cl XE)(hg:Gl X x)(hdb:(x==("__debug__":Str))=false)
  (O:OwnCls x (cl c) bm newId X.mg X.base) (Fn:ExcBaseFacts Bn newId inN bmN) (hBn:bm.contains (.type Bn)=true) (FB:ExcBaseFacts B nid initId bm):
  PS X (.Raise (some (.Call (.Name x np) [.Constant (.str tx) j p] [] cpos)) none pos) (tRaise XE c):=by
 intro pins s σ H D I h;obtain⟨tl,N,nm,q,bs,hdct,sn,sub,ab,col,dd,k0,k1,k2,k3,k5,mN,hC,hN,hni,T⟩:=O.obj;refine wpAny_Raise_call_subU (C:=cl c) (nm:=nm) (q:=q) (N:=N) (bs:=bs) (bm:=tl) (hdct:=hdct) (sn:=sn) (sub:=sub) (ab:=ab) (col:=col) (dd:=dd) (k0:=k0) (k1:=k1) (k2:=k2) (k3:=k3) (k5:=k5) Fn hBn FB (mN:=mN) (T.hasType FB.hasBase) (I.ok.hd hc) rfl hni (kK I hg O.bound ⟨rfl,?_⟩ hdb);refine Calls.evalArgs_plain (z8 ((pa_cons pe_str pa_nil:PA X [.Constant (.str tx) j p] _) cpos pins s σ H (λvs H1=>H1=H/\vs.length=1) I ⟨rfl,rfl⟩) (λus s2 h2=>?_) λ_ _ z=>z);obtain⟨vs,H1,I2,r,rfl,hv⟩:=h2;have hl:us.length=1:=by rw[←r.length];exact hv
 refine⟨rfl,by show us.length<=_;rw[hl];decide,I2.bk _ _ hC,hN.keeps I2.bk,T.keeps I2.bk,λh' e m=>?_⟩;obtain⟨tt,ht,_,_⟩:=m.there;have I3:Inv X pins σ H1 {s2 with heap:=h'}:=I2.kept (t':=s2.toks) m.keeps;exact t pins σ H1 _ e c I3 ⟨I2.newIn hx m.new,I2.hok.new m.new,_,_,ht,⟨rfl,rfl⟩,rfl,.inl rfl⟩ h
end
end L2
namespace L2
open PySem PySem.Spec PyProof.Rows PySem.W
structure ExcCls(K:Frag)(C:Addr):Prop where
 ga:findIn K (.ref C) "__getattribute__"=some (some (.builtin "BaseException.__getattribute__"))
 gt:findIn K (.ref C) "__getattr__"=some none
 cl:findIn K (.ref C) "__class__"=some (some (.builtin "object.__class__"))
 gs:specialIn K (.builtin "object.__class__") "__get__"=some (some (.builtin "getset_descriptor.__get__"))
 tk:takesIn K (.builtin "object.__class__")=some true
 ob:mroIn K C (.type "object")=some true
 be:mroIn K C (.type "BaseException")=some true
 is:∃cd,clsIn K C=some cd
end L2
namespace PySem
theorem o2{prog:Program}{w:World}{A:Around}(hh:A.handled=none){I l:Addr}(hne:I≠l)(items:Array Value):
  WalksS prog w A I [I,l] [I] (λa b=>a=b) items.size (λi v=>items[i]?=some v) (λi s=>s.heap.IsListIter I l i/\s.heap.IsList l items) where
 sub:=λb hb=>by simp at hb;simp[hb]
 grefl:=λ_=>rfl
 gtrans:=λ_ _ _ h1 h2=>h1.trans h2
 frame:=λi s h' tk st _ k=>by
  obtain⟨⟨o,e,c,d⟩,⟨o',e',c',n,d'⟩⟩:=st;exact⟨⟨o,k I (by simp) o e,c,d⟩,⟨o',k l (by simp) o' e',c',n,d'⟩⟩
 item:=λi s Q E hi st h=>by
  have hx:items[i]?=some items[i]:=by simp[hi]
  refine wpAny_pyNext_list_item st.1 st.2 hx λh' st' sb=>h _ _ hx ⟨st',?_⟩ ⟨λb o hb e=>?_,rfl,rfl,rfl,yP _⟩
  ·obtain⟨o,e,r⟩:=st.2
   exact⟨o,(sb.2 l (λz=>hne z.symm)).trans e,r⟩
  ·have hb:b≠I:=by simpa using hb
   exact(sb.2 b hb).trans e
 done:=λs Q E st h=>by
  refine wpAny_pyNext_list_end hh st.1 st.2 (by simp) λh' eb=>h _ ⟨λb o hb e=>?_,rfl,rfl,rfl,yP _⟩;have hb:b≠I:=by simpa using hb
  exact eb b o hb e
 self:=λi s Q E st h=>wpAny_pyIter_listiter st.1 h
theorem bX(ys:List Int):∀j,j<=ys.length->preSum (λi=>ys.getD i 0) j=(ys.take j).sum
 |0,_=>rfl
 |j+1,h=>by
  have hj:j<ys.length:=by omega
  rw[show preSum (λi=>ys.getD i 0) (j+1)=preSum (λi=>ys.getD i 0) j+ys.getD j 0 from rfl,bX ys j (by omega),zJ hj,List.sum_append];simp[hj]
end PySem
namespace L2
open PySem PyProof.Rows
theorem jP:∀(ys:List Int),(∀y∈ys,-1000000<=y/\y<=1000000)->-(1000000*(ys.length:Int))<=ys.sum/\ys.sum<=1000000*(ys.length:Int)
 |[],_=>by simp
 |y::r,h=>by
  have h1:=h y (by simp);have h2:=jP r λz hz=>h z (by simp[hz]);simp only[List.sum_cons,yJ]
  push_cast
  omega
theorem mJ:∀{ys:List Int}{its:List Value},Vals (ys.map V.int) its->∀(i:Nat)(v:Value),its[i]?=some v->∃t,v=.int (ys.getD i 0) t:=by
 intro ys its r i v hv;have hl:=r.length;have hi:i<its.length:=(List.getElem?_eq_some_iff.mp hv).1;have hy:i<ys.length:=by simp at hl;omega
 obtain⟨u,hu,ru⟩:=r.get (i:=i) (x:=.int ys[i]) (by simp[hy]);rw[hu] at hv;cases hv;obtain⟨t,e⟩:=ru;exact⟨t,by rw[e];simp[hy]⟩
variable{X:Cx}
theorem jC(hc:X.calm=true):CallR X (.builtin "sum") (λxs H Q=>∃(p:Addr)(ys:List Int),xs=[.ref p]/\SqL X.K H p (ys.map V.int)/\ys.length<=1000/\(∀y∈ys,-1000000<=y/\y<=1000000)/\Q (.int ys.sum) H):=by
 intro pins s σ H xs us Q I r h;obtain⟨p,ys,rfl,hq,hl,hs,q⟩:=h;obtain⟨u,rfl,rx⟩:=vals1 r;cases rx;obtain⟨its,r',pl,hz⟩:=I.list hq;have hlen:its.length=ys.length:=by have:=r'.length;simpa using this.symm
 refine call_sum_walkS (wpAny_pyIter_list pl.isList ?_);have hlt:p<s.heap.objs.size:=by
  obtain⟨o,e,_⟩:=pl.isList;exact yV e
 have hne:s.heap.objs.size≠p:=by
  intro e;rw[e] at hlt;exact aAD _ hlt
 have hh:X.A.in1.handled=none:=I.ok.hd hc;refine⟨s.heap.objs.size,[s.heap.objs.size,p],[s.heap.objs.size],λa b=>a=b,its.toArray.size,λi v=>its.toArray[i]?=some v,λi z=>z.heap.IsListIter s.heap.objs.size p i/\z.heap.IsList p its.toArray,λi=>ys.getD i 0,rfl,o2 hh hne its.toArray,⟨⟨_,y9 _ rfl,rfl,rfl⟩,?_⟩,?_,λi v hv=>mJ r' i v (by simpa using hv),?_,?_⟩
 ·obtain⟨o,e,rest⟩:=pl.isList
  exact⟨o,yO _ e,rest⟩
 ·intro b hb
  have hz:(s.heap.push {cls:=Value.type "list_iterator",data:=Data.fields #[Value.ref p,Value.int 0 0]}).objs.size=s.heap.objs.size+1:=by simp[Heap.push]
  have hb:b=s.heap.objs.size\/b=p:=by simpa using hb
  show b<(s.heap.push {cls:=Value.type "list_iterator",data:=Data.fields #[Value.ref p,Value.int 0 0]}).objs.size;rw[hz];rcases hb with rfl|rfl
  ·exact Nat.lt_succ_self _
  ·exact Nat.lt_succ_of_lt hlt
 ·intro j hj
  have hj':j<ys.length:=by simpa[hlen] using hj
  have b1:=hs (ys.getD j 0) (by simp[hj']);have b2:=jP (ys.take (j+1)) λy hy=>hs y (List.mem_of_mem_take hy);have b3:((ys.take (j+1)).length:Int)<=1000:=by simp;omega
  rw[bX ys (j+1) hj'];have c1:InLong (ys.getD j 0):=by constructor<;>omega
  have c2:InLong (ys.take (j+1)).sum:=by constructor<;>omega
  exact⟨c1,c2⟩
 ·intro s' t' mv
  have e:preSum (λi=>ys.getD i 0) its.toArray.size=ys.sum:=by
   rw[show its.toArray.size=ys.length by simpa using hlen,bX ys ys.length (yP _),zV]
  rw[e];refine⟨.int ys.sum,H,?_,⟨t',rfl⟩,q⟩;have es:s'={s with heap:=s'.heap,toks:=s'.toks}:=by
   obtain⟨h',g',d',k',o'⟩:=s';have h1:=mv.gens;have h2:=mv.drawn;have h3:=mv.os;simp only at h1 h2 h3;subst h1 h2 h3;rfl
  rw[es];refine I.kept λb o e=>mv.heap b o ?_ (yO _ e);have hb:b<s.heap.objs.size:=yV e;intro z;have z:b=s.heap.objs.size:=by simpa using z
  rw[z] at hb;exact aAD _ hb
end L2
namespace L2
open PySem PyProof.Rows
variable{X:Cx}
end L2
namespace L2
open PySem PySem.Spec PyProof.Rows
variable{X:Cx}
end L2
namespace L2
open PySem PySem.Spec PyProof.Rows
end L2
namespace Py
noncomputable def sb(a b x:Int):Int:=if x=b then a else x
noncomputable def sb2(a b:Int)(p:Int×Int):Int×Int:=(sb a b p.1,sb a b p.2)
noncomputable def rgs:Nat->List (Int×Int)->Nat
 |n+1,(a,b)::r=>(if a=b then 1 else 0)+rgs n (r.map (sb2 a b))
 |_,_=>0
noncomputable def rings(l:List (Int×Int)):Nat:=rgs l.length l
noncomputable def addA{κ:Type}[DecidableEq κ]:List (κ×Int)->κ->Int->List (κ×Int)
 |[],k,n=>[(k,n)]
 |(a,m)::r,k,n=>if a=k then(a,m+n)::r else(a,m)::addA r k n
noncomputable def tmR(t:List (Int×Int)):List (Int×Int):=t.foldl (λf x=>addA (addA f (x.1+2) (-x.2)) (x.1+ -2) (-x.2)) []
noncomputable def putA(f t:List (Int×Int)):List (Int×Int):=t.foldl (λf x=>addA f x.1 x.2) f
noncomputable def addB(f:List (Int×List (Int×Int)))(g:Int)(p n:Int):List (Int×List (Int×Int)):=match f with
 |[]=>[(g,addA [] p n)]
 |(a,t)::r=>if a=g then(a,addA t p n)::r else(a,t)::addB r g p n
noncomputable def atB:List (Int×List (Int×Int))->Int->List (Int×Int)
 |[],_=>[]
 |(a,t)::r,g=>if a=g then t else atB r g
noncomputable def ins(x:Int):List Int->List Int
 |[]=>[x]
 |y::r=>if x<y then x::y::r else y::ins x r
noncomputable def sortI(l:List Int):List Int:=l.foldr ins []
noncomputable def famK(m:Nat)(c:Int):List Int:=(List.range m).map (λ(e:Nat)=>c-4*e)++(List.range m).map λ(e:Nat)=>c-2-4*e
noncomputable def longK(ks:List Int):Bool:=decide (64<=ks.length/\ks.length<=128)&&decide (ks=famK (ks.length/2) (ks.headD 0))
noncomputable def putC(s:Int):List Int->Int->List (Int×Int)->List (Int×Int)
 |[],_,t=>t
 |x::xs,q,t=>putC s xs (q-4) (addA t q (x*s))
noncomputable abbrev Sx:=List (List Int)×Int
noncomputable abbrev Sk:=Sx×Int
noncomputable instance dSk:DecidableEq Sk:=λa b=>Classical.propDecidable (a=b)
noncomputable def byR(t:List (Sk×Int)):List (Int×List (Int×Int)):=t.foldl (λf x=>addB f x.1.1.2 x.1.2 x.2) []
noncomputable def spO(sp:Sx->Int->Option Sx):List (Sk×Int)->List (Sk×Int)->Option (List (Sk×Int))
 |[],f=>some f
 |x::r,f=>(sp x.1.1 0).bind λs0=>(sp x.1.1 1).bind λs1=>spO sp r (addA (addA f (s0,x.1.2+1) x.2) (s1,x.1.2+ -1) x.2)
noncomputable def spsO(sp:Sx->Int->Option Sx):Nat->List (Sk×Int)->Option (List (Sk×Int))
 |0,t=>some t
 |n+1,t=>(spO sp t []).bind λt'=>if t'.length<=5000 then spsO sp n t' else none
noncomputable def sumO(b:Int->List (Int×Int)):Nat->List (Int×Int)->Option (List (Int×Int))
 |0,f=>some f
 |n+1,f=>if(tmR f).length<=5000/\(putA (tmR f) (b n)).length<=5000 then sumO b n (putA (tmR f) (b n)) else none
inductive D where
 |non|bl (b:Bool)|int (i:Int)|str (x:List Nat)
 |tup (xs:List D)|lst (xs:List D)|dic (ks:List Int) (vs:List D)|exn (c:Nat)|scr (ns:List Int)
inductive R(α:Type) where
 |ok (a:α)|exc (c:Nat)|bad
noncomputable def R.bind{α β:Type}(r:R α)(f:α->R β):R β:=match r with
 |.ok a=>f a|.exc c=>.exc c|.bad=>.bad
@[simp] theorem R.bind_ok {α β : Type} (a : α) (f : α -> R β) : (R.ok a).bind f = f a := rfl
@[simp] theorem R.bind_exc {α β : Type} (c : Nat) (f : α -> R β) : (R.exc c : R α).bind f = .exc c := rfl
noncomputable def R.quiet{α:Type}:R α->R α
 |.exc _=>.bad
 |r=>r
@[simp] theorem R.quiet_ok {α : Type} (a : α) : (R.ok a).quiet = .ok a := rfl
@[simp] theorem R.bind_bad {α β : Type} (f : α -> R β) : (R.bad : R α).bind f = .bad := rfl
noncomputable abbrev LIM:Nat:=100000
mutual
noncomputable def eqD:D->D->Bool
 |.non,.non=>true
 |.bl a,.bl b=>a==b
 |.int a,.int b=>a==b
 |.bl a,.int b=>(if a then 1 else 0)==b
 |.int a,.bl b=>a==(if b then 1 else 0)
 |.str a,.str b=>a==b
 |.tup a,.tup b=>eqDs a b
 |.lst a,.lst b=>eqDs a b
 |_,_=>false
noncomputable def eqDs:List D->List D->Bool
 |[],[]=>true
 |a::as,b::bs=>eqD a b&&eqDs as bs
 |_,_=>false
end
mutual
noncomputable def pln(n:Nat):D->Bool
 |.tup a=>decide (0<n)&&plns (n-1) a
 |.lst a=>decide (0<n)&&plns (n-1) a
 |.dic _ _=>false
 |.exn _=>false
 |.scr _=>false
 |_=>true
noncomputable def plns(n:Nat):List D->Bool
 |[]=>true
 |a::as=>pln n a&&plns n as
end
noncomputable def flat:D->Bool
 |.non=>true|.bl _=>true|.int _=>true|.str _=>true
 |_=>false
noncomputable def ixD(n:Nat)(i:Int):Option Nat:=if 0<=i then(if i<n then some i.toNat else none) else if-(n:Int)<=i then some (i+n).toNat else none
noncomputable def atD{α:Type}(xs:List α)(i:Int):Option α:=(ixD xs.length i).bind λj=>xs[j]?
noncomputable def sIx(n d:Nat):Option Int->Nat
 |none=>d
 |some i=>if i<0 then(i+(n:Int)).toNat else min i.toNat n
noncomputable def cut{α:Type}(xs:List α)(lo hi:Option Int):List α:=(xs.drop (sIx xs.length 0 lo)).take (sIx xs.length xs.length hi-sIx xs.length 0 lo)
inductive Op1 where
 |not|neg|len|list|tuple|isNone|isNotNone|isInt|isBool|isTup|isLst|sum|all|sorted
inductive Op2 where
 |add|sub|mul|mod|fdiv|pow|eq|ne|lt|le|gt|ge|isIn|notIn|at|index|max
noncomputable def truth:D->R Bool
 |.non=>.ok false
 |.bl b=>.ok b
 |.int i=>.ok (decide (i≠0))
 |.str _=>.bad
 |.tup xs=>.ok (!xs.isEmpty)
 |.lst xs=>.ok (!xs.isEmpty)
 |.dic _ _=>.bad
 |.exn _=>.bad
 |.scr _=>.bad
noncomputable def ofO:Option D->R D
 |some d=>.ok d
 |none=>.bad
noncomputable def lookD:List Int->List D->Int->Option D
 |k::ks,v::vs,i=>if k=i then some v else lookD ks vs i
 |_,_,_=>none
noncomputable def sumI:List D->Option Int
 |[]=>some 0
 |.int i::r=>(sumI r).map (i+·)
 |_=>none
noncomputable def isBl:D->Bool
 |.bl _=>true
 |_=>false
noncomputable def smallI:D->Bool
 |.int i=>decide (-1000000<=i/\i<=1000000)
 |_=>false
noncomputable def allB:List D->Option Bool
 |[]=>some true
 |.bl b::r=>if b then allB r else some false
 |_=>none
noncomputable def intsOf:List D->Option (List Int)
 |[]=>some []
 |.int i::r=>(intsOf r).map (i::·)
 |_=>none
noncomputable def maxI(x:Int)(r:List Int):Int:=r.foldl (λa b=>if b>a then b else a) x
noncomputable def op1:Op1->D->R D
 |.not,d=>(truth d).bind λb=>.ok (.bl (!b))
 |.neg,.int i=>.ok (.int (-i))
 |.len,.lst xs=>.ok (.int xs.length)
 |.len,.tup xs=>.ok (.int xs.length)
 |.len,.scr xs=>.ok (.int xs.length)
 |.list,.lst xs=>.ok (.lst xs)
 |.list,.tup xs=>.ok (.lst xs)
 |.tuple,.lst xs=>.ok (.tup xs)
 |.tuple,.tup xs=>.ok (.tup xs)
 |.isNone,.non=>.ok (.bl true)
 |.isNone,d=>if pln 1000 d then .ok (.bl false) else .bad
 |.isNotNone,.non=>.ok (.bl false)
 |.isNotNone,d=>if pln 1000 d then .ok (.bl true) else .bad
 |.isInt,.int _=>.ok (.bl true)
 |.isInt,.bl _=>.ok (.bl true)
 |.isInt,d=>if pln 1000 d then .ok (.bl false) else .bad
 |.isBool,.bl _=>.ok (.bl true)
 |.isBool,d=>if pln 1000 d then .ok (.bl false) else .bad
 |.isTup,d=>if pln 1000 d then .ok (.bl (match d with|.tup _=>true|_=>false)) else .bad
 |.isLst,d=>if pln 1000 d then .ok (.bl (match d with|.lst _=>true|_=>false)) else .bad
 |.sum,.lst xs=>if xs.length<=1000/\xs.all smallI=true then ofO ((sumI xs).map .int) else .bad
 |.all,.lst xs=>if xs.all isBl=true then ofO ((allB xs).map .bl) else .bad
 |.sorted,.dic ks _=>if ks.length<64\/longK ks=true then .ok (.lst ((sortI ks).map .int)) else .bad
 |_,_=>.bad
noncomputable def inD(x:D)(xs:List D):Bool:=xs.any λy=>eqD y x
noncomputable def idxD(x:D):List D->Option Nat
 |[]=>none
 |y::r=>if eqD y x then some 0 else(idxD x r).map (· +1)
noncomputable def isin(x:D):D->R Bool
 |.lst xs=>if flat x&&xs.all flat then .ok (inD x xs) else .bad
 |.tup xs=>if flat x&&xs.all flat then .ok (inD x xs) else .bad
 |_=>.bad
noncomputable def kin:D->D->Bool
 |.tup _,.tup _=>true
 |.lst _,.lst _=>true
 |.int _,.int _=>true
 |.bl _,.bl _=>true
 |.str _,.str _=>true
 |_,_=>false
noncomputable def op2:Op2->D->D->R D
 |.add,.int i,.int j=>.ok (.int (i+j))
 |.add,.lst a,.lst b=>if a.length+b.length<=LIM then .ok (.lst (a++b)) else .bad
 |.add,.tup a,.tup b=>if a.length+b.length<=LIM then .ok (.tup (a++b)) else .bad
 |.sub,.int i,.int j=>.ok (.int (i-j))
 |.mul,.int i,.int j=>if(-(2^64)<i/\i<2^64)\/(-(2^64)<j/\j<2^64) then .ok (.int (i*j)) else .bad
 |.mod,.int i,.int j=>if 0<j then .ok (.int (i%j)) else .bad
 |.fdiv,.int i,.int j=>if 0<j/\j<1073741824 then .ok (.int (i/j)) else .bad
 |.pow,.int i,.int j=>if 0<=j/\j<=1000000/\i.natAbs<2^64 then .ok (.int (i^j.toNat)) else .bad
 |.eq,a,b=>if pln 9 a&&pln 9 b&&kin a b then .ok (.bl (eqD a b)) else .bad
 |.ne,a,b=>if pln 9 a&&pln 9 b&&kin a b then .ok (.bl (!eqD a b)) else .bad
 |.lt,.int i,.int j=>.ok (.bl (decide (i<j)))
 |.le,.int i,.int j=>.ok (.bl (decide (i<=j)))
 |.gt,.int i,.int j=>.ok (.bl (decide (j<i)))
 |.ge,.int i,.int j=>.ok (.bl (decide (j<=i)))
 |.isIn,x,y=>(isin x y).bind λb=>.ok (.bl b)
 |.notIn,x,y=>(isin x y).bind λb=>.ok (.bl (!b))
 |.at,.lst xs,.int i=>ofO (atD xs i)
 |.at,.tup xs,.int i=>ofO (atD xs i)
 |.at,.scr xs,.int i=>ofO ((atD xs i).map .int)
 |.index,.lst xs,x=>if flat x&&xs.all flat then ofO ((idxD x xs).map λn=>.int n) else .bad
 |.max,.int i,.int j=>.ok (.int (if j>i then j else i))
 |_,_,_=>.bad
noncomputable def slc(x:D)(l h:Option Int):R D:=match x with
 |.lst xs=>.ok (.lst (cut xs l h))
 |.tup xs=>.ok (.tup (cut xs l h))
 |.str x=>if x.length<=LIM then .ok (.str (cut x l h)) else .bad
 |_=>.bad
noncomputable def asI:D->R (Option Int)
 |.int i=>.ok (some i)
 |_=>.bad
inductive IterK where
 |seq|rng|enum
mutual
inductive Ex where
 |var (i:Nat)
 |cst (d:D)
 |glob (g:Nat)
 |op1 (o:Op1) (a:Ex)
 |op2 (o:Op2) (a b:Ex)
 |not (a:Ex)
 |and (a b:Ex)
 |or (a b:Ex)
 |ite (c:Tx) (a b:Ex)
 |tup (es:List Ex)
 |lst (es:List Ex)
 |slc (a:Ex) (lo hi:Option Ex)
 |call (f:Nat) (es:List Ex)
 |mapx (it:Ex) (caps:List Nat) (f:Nat) (es:List Ex)
 |comp (k:IterK) (its:List Ex) (caps:List Nat) (ntg:Nat) (cond:Option Tx) (elt:Ex)
 |get (a b c:Ex)
 |dget (a b:Ex)
 |din (neg:Bool) (x a:Ex)
 |dlen (a:Ex)
inductive Tx where
 |leaf (e:Ex)
 |not (a:Tx)
 |and (a b:Tx)
 |or (a b:Tx)
end
noncomputable abbrev Slot:=Option (Bool×D)
noncomputable abbrev Sto:=List Slot
noncomputable def rdV(δ:Sto)(i:Nat):R D:=match δ[i]? with
 |some (some (false,d))=>.ok d
 |_=>.bad
noncomputable def rdR(δ:Sto)(i:Nat):R D:=match δ[i]? with
 |some (some (_,d))=>.ok d
 |_=>.bad
noncomputable def rangeD(lo:Int)(n:Nat):List D:=(List.range n).map λ(k:Nat)=>D.int (lo+k)
noncomputable def enumD(n:Nat):List D->List D
 |[]=>[]
 |x::r=>.tup [.int n,x]::enumD (n+1) r
noncomputable def items0:IterK->List D->R (List D)
 |.seq,[.lst xs]=>.ok xs
 |.seq,[.tup xs]=>.ok xs
 |.rng,[.int n]=>if-LIM<=n/\n<=LIM then .ok (rangeD 0 n.toNat) else .bad
 |.enum,[.tup xs]=>.ok (enumD 0 xs)
 |_,_=>.bad
noncomputable def itemsD(k:IterK)(ss:List D):R (List D):=(items0 k ss).bind λxs=>if xs.length<=LIM then .ok xs else .bad
noncomputable def spread:Nat->D->Option (List D)
 |1,d=>some [d]
 |n+2,.tup xs=>if xs.length=n+2 then some xs else none
 |_,_=>none
noncomputable def capOf(δ:Sto)(caps:List Nat):Sto:=caps.map λi=>(δ[i]?).getD none
noncomputable def compM(f:D->R (Option D)):List D->R (List D)
 |[]=>.ok []
 |x::r=>(f x).bind λo=>(compM f r).bind λys=>.ok (match o with|some y=>y::ys|none=>ys)
noncomputable def asB:D->R Bool
 |.bl b=>.ok b
 |_=>.bad
section
variable(Φ:Nat->List D->R D)(G:List D)
mutual
noncomputable def ev(m:Bool):Ex->Sto->R D
 |.var i,δ=>if m then rdR δ i else rdV δ i
 |.cst d,_=>.ok d
 |.glob g,_=>ofO G[g]?
 |.op1 o a,δ=>(ev true a δ).bind λx=>op1 o x
 |.op2 o a b,δ=>(ev true a δ).bind λx=>(ev true b δ).bind λy=>op2 o x y
 |.not a,δ=>(ev true a δ).bind λx=>(asB x).bind λt=>.ok (.bl (!t))
 |.and a b,δ=>(ev true a δ).bind λx=>(asB x).bind λt=>if t then ev false b δ else .ok (.bl false)
 |.or a b,δ=>(ev true a δ).bind λx=>(asB x).bind λt=>if t then .ok (.bl true) else ev false b δ
 |.ite c a b,δ=>(evT c δ).bind λt=>if t then ev false a δ else ev false b δ
 |.tup es,δ=>(evs false es δ).bind λxs=>.ok (.tup xs)
 |.lst es,δ=>(evs false es δ).bind λxs=>.ok (.lst xs)
 |.slc a lo hi,δ=>(ev true a δ).bind λx=>(evP lo δ).bind λl=>(evP hi δ).bind λh=>slc x l h
 |.call f es,δ=>(evs false es δ).bind λxs=>Φ f xs
 | .mapx it caps f es,δ=>(ev true it δ).bind λs=>(itemsD .seq [s]).bind λxs=>
   (compM (λx=>(evs false es (some (false,x)::capOf δ caps)).bind λas=>(Φ f as).bind λy=>.ok (some y)) xs).bind λys=>.ok (.lst ys)
 | .comp k its caps ntg cond elt,δ=>(evs true its δ).bind λss=>(itemsD k ss).bind λxs=>
   (compM (λx=>match spread ntg x with
    |none=>.bad
    |some ts=>
     (evO cond (ts.map (λt=>some (false,t))++capOf δ caps)).bind λb=>
      if b then(ev false elt (ts.map (λt=>some (false,t))++capOf δ caps)).bind λy=>.ok (some y) else .ok none) xs).quiet.bind λys=>.ok (.lst ys)
 | .get a b c,δ=>(ev true a δ).bind λx=>(ev true b δ).bind λy=>(ev false c δ).bind λz=>match x,y with
   |.dic ks vs,.int i=>.ok ((lookD ks vs i).getD z)
   |_,_=>.bad
 | .dget a b,δ=>(ev true a δ).bind λx=>(ev true b δ).bind λy=>match x,y with
   |.dic ks vs,.int i=>ofO (lookD ks vs i)
   |_,_=>.bad
 | .din neg b a,δ=>(ev true b δ).bind λy=>(ev true a δ).bind λx=>match x,y with
   |.dic ks _,.int i=>.ok (.bl (if neg then !decide (i∈ks) else decide (i∈ks)))
   |_,_=>.bad
 | .dlen a,δ=>(ev true a δ).bind λx=>match x with
   |.dic ks _=>.ok (.int ks.length)
   |_=>.bad
noncomputable def evs(m:Bool):List Ex->Sto->R (List D)
 |[],_=>.ok []
 |e::es,δ=>(ev m e δ).bind λx=>(evs m es δ).bind λxs=>.ok (x::xs)
noncomputable def evP:Option Ex->Sto->R (Option Int)
 |none,_=>.ok none
 |some e,δ=>(ev true e δ).bind λx=>asI x
noncomputable def evO:Option Tx->Sto->R Bool
 |none,_=>.ok true
 |some c,δ=>evT c δ
noncomputable def evT:Tx->Sto->R Bool
 |.leaf e,δ=>(ev true e δ).bind λx=>truth x
 |.not a,δ=>(evT a δ).bind λt=>.ok (!t)
 |.and a b,δ=>(evT a δ).bind λt=>if t then evT b δ else .ok false
 |.or a b,δ=>(evT a δ).bind λt=>if t then .ok true else evT b δ
end
end
mutual
noncomputable def leaks(m:Bool):Ex->List Nat
 |.var i=>if m then[] else[i]
 |.op1 _ a=>leaks true a
 |.op2 _ a b=>leaks true a++leaks true b
 |.not a=>leaks true a
 |.and a b=>leaks true a++leaks false b
 |.or a b=>leaks true a++leaks false b
 |.ite c a b=>leaksT c++leaks false a++leaks false b
 |.tup es=>leakss false es
 |.lst es=>leakss false es
 |.slc a l h=>leaks true a++leaksP l++leaksP h
 |.call _ es=>leakss false es
 |.mapx it caps _ es=>leaks true it++((leakss false es).filterMap λi=>if i<1 then none else caps[i-1]?)
 |.comp _ its caps n cond elt=>leakss true its++((leaksO cond++leaks false elt).filterMap λi=>if i<n then none else caps[i-n]?)
 |.get a b c=>leaks true a++leaks true b++leaks false c
 |.dget a b=>leaks true a++leaks true b
 |.din _ a b=>leaks true a++leaks true b
 |.dlen a=>leaks true a
 |_=>[]
noncomputable def leakss(m:Bool):List Ex->List Nat
 |[]=>[]
 |e::es=>leaks m e++leakss m es
noncomputable def leaksP:Option Ex->List Nat
 |none=>[]
 |some e=>leaks true e
noncomputable def leaksO:Option Tx->List Nat
 |none=>[]
 |some c=>leaksT c
noncomputable def leaksT:Tx->List Nat
 |.leaf e=>leaks true e
 |.not a=>leaksT a
 |.and a b=>leaksT a++leaksT b
 |.or a b=>leaksT a++leaksT b
end
noncomputable def frz1(δ:Sto)(i:Nat):Sto:=match δ[i]? with
 |some (some (true,.lst xs))=>δ.set i (some (false,.lst xs))
 |some (some (true,.dic ks vs))=>δ.set i (some (false,.dic ks vs))
 |_=>δ
noncomputable def frz:List Nat->Sto->Sto
 |[],δ=>δ
 |i::is,δ=>frz is (frz1 δ i)
noncomputable def frsh:Ex->Bool
 |.lst _=>true
 |.comp .. =>true
 |.mapx .. =>true
 |.op1 .list _=>true
 |.op2 .add _ _=>true
 |.slc .. =>true
 |_=>false
noncomputable def isOwn:D->Bool
 |.lst _=>true
 |_=>false
inductive Sm where
 |new (i:Nat)
 |asg (i:Nat) (e:Ex)
 |put (i:Nat) (ix e:Ex)
 |dput (i:Nat) (ix e:Ex)
 |app (i:Nat) (e:Ex)
 |ret (e:Ex)
 |ite (c:Tx) (a b:List Sm)
 |loop (k:IterK) (its:List Ex) (tg:List Nat) (body:List Sm)
 |whl (c:Tx) (body:List Sm)
 |rai (c:Nat)
 |tryx (body:List Sm) (cs:List Nat) (as:Option Nat) (h:List Sm)
 |pass
 |pow (i j f:Nat)
 |ladd (i f:Nat) (p r:Ex)
 |rgs
inductive Out where
 |nx (δ:Sto)|bk (δ:Sto)|ct (δ:Sto)|rt (d:D)|xc (c:Nat) (δ:Sto)|bad
noncomputable def Out.of{α:Type}(r:R α)(δ:Sto)(f:α->Out):Out:=match r with
 |.ok a=>f a|.exc c=>.xc c δ|.bad=>.bad
@[simp] theorem Out.of_ok {α : Type} (a : α) (δ : Sto) (f : α -> Out) : Out.of (.ok a) δ f = f a := rfl
@[simp] theorem Out.of_exc {α : Type} (c : Nat) (δ : Sto) (f : α -> Out) : Out.of (.exc c : R α) δ f = .xc c δ := rfl
@[simp] theorem Out.of_bad {α : Type} (δ : Sto) (f : α -> Out) : Out.of (.bad : R α) δ f = .bad := rfl
noncomputable def sets(δ:Sto):List Nat->List D->Sto
 |i::is,d::ds=>sets (δ.set i (some (false,d))) is ds
 |_,_=>δ
noncomputable def forM(f:D->Sto->Out):List D->Sto->Out
 |[],δ=>.nx δ
 |x::r,δ=>match f x δ with
  |.nx δ'=>forM f r δ'
  |.ct δ'=>forM f r δ'
  |.bk δ'=>.nx δ'
  |.rt d=>.rt d
  |_=>.bad
noncomputable def whlM(c:Sto->R Bool)(fz:Sto->Sto)(b:Sto->Out):Nat->Sto->Out
 |0,_=>.bad
 |n+1,δ=>match c (fz δ) with
  |.ok true=>(match b (fz δ) with
   |.nx δ'=>whlM c fz b n δ'
   |.ct δ'=>whlM c fz b n δ'
   |.bk δ'=>.nx δ'
   |.rt d=>.rt d
   |_=>.bad)
  |.ok false=>.nx (fz δ)
  |_=>.bad
noncomputable def putD(δ:Sto)(i:Nat)(k v:D):Out:=match δ[i]?,k with
 |some (some (true,.lst xs)),.int j=>match ixD xs.length j with
  |some n=>.nx (δ.set i (some (true,.lst (xs.set n v))))
  |none=>.bad
 |_,_=>.bad
noncomputable def repD:List Int->List D->Int->D->List D
 |k::ks,v::vs,j,x=>(if k=j then x else v)::repD ks vs j x
 |_,_,_,_=>[]
noncomputable def dputD(δ:Sto)(i:Nat)(k v:D):Out:=match δ[i]?,k with
 |some (some (true,.dic ks vs)),.int j=>if ks.length<LIM then(if j∈ks then .nx (δ.set i (some (true,.dic ks (repD ks vs j v)))) else .nx (δ.set i (some (true,.dic (ks++[j]) (vs++[v]))))) else .bad
 |_,_=>.bad
noncomputable def ownL(δ:Sto)(i:Nat):Bool:=match δ[i]? with
 |some (some (true,.lst _))=>true
 |_=>false
noncomputable def ownM(δ:Sto)(i:Nat):Bool:=match δ[i]? with
 |some (some (true,.dic _ _))=>true
 |_=>false
noncomputable def appD(δ:Sto)(i:Nat)(v:D):Out:=match δ[i]? with
 |some (some (true,.lst xs))=>if xs.length<LIM then .nx (δ.set i (some (true,.lst (xs++[v])))) else .bad
 |_=>.bad
noncomputable def lstI(r:List Int):D:=.lst (r.map .int)
noncomputable def ren(old new:Int)(r:List Int):List Int:=r.map λx=>if x=old then new else x
noncomputable def intsI:List D->Option (List Int)
 |[]=>some []
 |.int i::r=>(intsI r).map (i::·)
 |_=>none
noncomputable def rowsI:List D->Option (List (List Int))
 |[]=>some []
 |.tup xs::r=>(intsI xs).bind λq=>(rowsI r).map (q::·)
 |_=>none
noncomputable def asRows:R D->Option (List (List Int))
 |.ok (.lst xs)=>rowsI xs
 |_=>none
noncomputable def unset(δ:Sto)(i:Nat):Bool:=match δ[i]? with
 |some none=>true
 |_=>false
noncomputable def tabD(t:List (Int×Int)):D:=.dic (t.map (·.1)) (t.map λx=>.int x.2)
noncomputable def tabOf(ks:List Int)(vs:List D):Option (List (Int×Int)):=(intsOf vs).bind λxs=>if ks.length=xs.length then some (ks.zip xs) else none
noncomputable def asSheet:D->Option Sx
 |.tup [.tup rows,.int g]=>(rowsI rows).map λr=>(r,g)
 |_=>none
noncomputable def rowT(r:List Int):D:=.tup (r.map .int)
noncomputable def toSheet(s:Sx):D:=.tup [.tup (s.1.map rowT),.int s.2]
noncomputable def okO{α:Type}:R α->Option α
 |.ok a=>some a
 |_=>none
noncomputable def powD(Φ:Nat->List D->R D)(f:Nat)(d:D):Option D:=
 (asSheet d).bind λs=>(spsO (λs w=>(okO (Φ f [toSheet s,.int 0,.int w])).bind asSheet) s.1.length [((s,0),1)]).bind λt=>
  match(byR t).map (·.1) with
  |[]=>none
  |x::r=>if r.length<=900/\-1<=maxI x r/\maxI x r<=5000 then(sumO (atB (byR t)) (maxI x r+1).toNat []).map tabD else none
noncomputable def laddT(Φ:Nat->List D->R D)(f:Nat)(t:List (Int×Int))(p r:Int):Option (List (Int×Int)):=match Φ f [.int r] with
 |.ok (.lst row)=>(intsOf row).bind λrow=>if(t.map (·.1)).Nodup/\row.length<=5000/\(putC (1-2*(r%2)) row (p+2*r) t).length<=5000 then some (putC (1-2*(r%2)) row (p+2*r) t) else none
 |_=>none
noncomputable def laddD(Φ:Nat->List D->R D)(f:Nat)(δ:Sto)(i:Nat)(p r:R D):Out:=match δ[i]?,p,r with
 |some (some (true,.dic ks vs)),.ok (.int p),.ok (.int r)=>(match(tabOf ks vs).bind λt=>laddT Φ f t p r with
  |some t=>.nx (δ.set i (some (true,tabD t)))
  |none=>.bad)
 |_,_,_=>.bad
noncomputable def pairsI:List (List Int)->Option (List (Int×Int))
 |[]=>some []
 |[a,b]::r=>(pairsI r).map ((a,b)::·)
 |_=>none
noncomputable def rgsD(δ:Sto):Out:=match(asRows (rdV δ 0)).bind pairsI with
 |some l=>if δ.length=6/\l.length<=900 then .rt (.int (rings l)) else .bad
 |none=>.bad
section
variable(Φ:Nat->List D->R D)(G:List D)(n:Nat)
mutual
noncomputable def xec:Sm->Sto->Out
 |.new i,δ=>.nx (δ.set i (some (true,.dic [] [])))
 |.asg i e,δ=>Out.of (ev Φ G false e (frz (leaks false e) δ)) (frz (leaks false e) δ) λd=>.nx ((frz (leaks false e) δ).set i (some (frsh e&&isOwn d,d)))
 | .put i ix e,δ=>if ownL (frz (leaks false e++leaks true ix) δ) i then Out.of (ev Φ G false e (frz (leaks false e++leaks true ix) δ)) (frz (leaks false e++leaks true ix) δ) λv=>
   Out.of (ev Φ G true ix (frz (leaks false e++leaks true ix) δ)) (frz (leaks false e++leaks true ix) δ) λk=>putD (frz (leaks false e++leaks true ix) δ) i k v else .bad
 | .dput i ix e,δ=>if ownM (frz (leaks false e++leaks true ix) δ) i then Out.of (ev Φ G false e (frz (leaks false e++leaks true ix) δ)) (frz (leaks false e++leaks true ix) δ) λv=>
   Out.of (ev Φ G true ix (frz (leaks false e++leaks true ix) δ)) (frz (leaks false e++leaks true ix) δ) λk=>dputD (frz (leaks false e++leaks true ix) δ) i k v else .bad
 |.app i e,δ=>if ownL (frz (leaks false e) δ) i then Out.of (ev Φ G false e (frz (leaks false e) δ)) (frz (leaks false e) δ) λv=>appD (frz (leaks false e) δ) i v else .bad
 |.ret e,δ=>Out.of (ev Φ G false e (frz (leaks false e) δ)) (frz (leaks false e) δ) λd=>.rt d
 |.ite c a b,δ=>Out.of (evT Φ G c (frz (leaksT c) δ)) (frz (leaksT c) δ) λt=>if t then xecs a (frz (leaksT c) δ) else xecs b (frz (leaksT c) δ)
 | .loop k its tg body,δ=>Out.of ((evs Φ G false its (frz (leakss false its) δ)).bind (itemsD k)).quiet (frz (leakss false its) δ) λxs=>
   forM (λx δ'=>match spread tg.length x with
    |none=>.bad
    |some ts=>xecs body (sets δ' tg ts)) xs (frz (leakss false its) δ)
 |.whl c body,δ=>whlM (evT Φ G c) (frz (leaksT c)) (xecs body) n δ
 |.rai c,δ=>.xc c δ
 | .tryx body cs as h,δ=>match xecs body δ with
   | .xc c' δ'=>if cs.contains c' then(match as with
     |none=>(match xecs h δ' with
      |.xc _ _=>.bad
      |o=>o)
     |some i=>match xecs h (δ'.set i (some (false,.exn c'))) with
      |.nx δ''=>.nx (δ''.set i none)
      |.rt d=>.rt d
      |_=>.bad) else .bad
   |o=>o
 |.pass,δ=>.nx δ
 |.pow i j f,δ=>(match(okO (rdV δ j)).bind (powD Φ f) with
  |some r=>.nx (δ.set i (some (false,r)))
  |none=>.bad)
 |.ladd i f p r,δ=>laddD Φ f (frz (leaks false p++leaks false r) δ) i (ev Φ G false p (frz (leaks false p++leaks false r) δ)) (ev Φ G false r (frz (leaks false p++leaks false r) δ))
 |.rgs,δ=>rgsD δ
noncomputable def xecs:List Sm->Sto->Out
 |[],δ=>.nx δ
 |s::ss,δ=>match xec s δ with
  |.nx δ'=>xecs ss δ'
  |o=>o
end
end
structure Fn where
 np:Nat
 ns:Nat
 body:List Sm
noncomputable def startD(F:Fn)(ds:List D):Sto:=ds.map (λd=>some (false,d))++List.replicate (F.ns-F.np) none
noncomputable def Out.val:Out->R D
 |.nx _=>.ok .non
 |.rt d=>.ok d
 |.xc c _=>.exc c
 |_=>.bad
structure Prog where
 fns:List Fn
 gls:List D
noncomputable def Phi(P:Prog):Nat->Nat->List D->R D
 |0,_,_=>.bad
 |k+1,f,ds=>match P.fns[f]? with
  |some F=>if ds.length=F.np then(xecs (Phi P k) P.gls 1000 F.body (startD F ds)).val else .bad
  |none=>.bad
end Py
namespace L2.Snd
open PySem PySem.Spec PyProof.Rows L2 Py
noncomputable def ExcOf(a C:Addr):HO:=.ext λh=>∃o,h.get? a=some o/\o.cls=.ref C/\o.dict=none/\∃vs,o.data=.fields vs
noncomputable def SqF(K:PySem.W.Frag)(H:Hp)(a:Addr)(xs:List V):Prop:=
 (∃o,H a=some (.frz o (.lst xs)))\/
  ∃(o:Obj)(its:Array Value)(n:Nat),K.lookup a=some o/\o.cls=.type "list"/\o.dict=none/\o.data=.seq its n/\its.size<=sizeLine/\Vals xs its.toList
theorem SqF.sqL{K:PySem.W.Frag}(h:SqF K H a xs):SqL K H a xs:=h.elim (λ⟨o,e⟩=>.inl (.inr ⟨o,e⟩)) .inr
section
variable(K:PySem.W.Frag)(cl:Nat->Addr)(F:Addr->Prop)(H:Hp)
mutual
noncomputable def Rep:D->V->Prop
 |.non,v=>v=.non
 |.bl b,v=>v=.bl b
 |.int i,v=>v=.int i
 |.str x,v=>v=.str ⟨x.toArray⟩
 |.tup xs,v=>∃a vs,v=.ref a/\SqT K H a vs/\Reps xs vs
 |.lst xs,v=>∃a vs,v=.ref a/\F a/\H a=some (.lst vs)/\Reps xs vs
 |.dic ks ds,v=>∃(a:Addr)(kvs:List (Key×V)),v=.ref a/\F a/\H a=some (.dK kvs)/\kvs.map (·.1)=ks.map Sum.inl/\Reps ds (kvs.map (·.2))
 |.exn c,v=>∃a,v=.ref a/\F a/\H a=some (ExcOf a (cl c))
 |.scr ns,v=>∃a,v=.ref a/\SqF K H a (ns.map V.int)
noncomputable def Reps:List D->List V->Prop
 |[],vs=>vs=[]
 |d::ds,vs=>∃v r,vs=v::r/\Rep d v/\Reps ds r
end
noncomputable def Own(d:D)(a:Addr):Prop:=match d with
 |.lst xs=>∃vs,H a=some (.lst vs)/\Reps K cl F H xs vs
 |.dic ks ds=>∃kvs:List (Key×V),H a=some (.dK kvs)/\kvs.map (·.1)=ks.map Sum.inl/\Reps K cl F H ds (kvs.map (·.2))
 |_=>False
noncomputable def Got(d:D)(v:V):Prop:=Rep K cl F H d v\/∃p,v=.ref p/\Own K cl F H d p
end
structure Pres(F:Addr->Prop)(H H':Hp):Prop where
 fr:∀a o,F a->H a=some o->H' a=some o
 tp:∀a xs,H a=some (.tup xs)->H' a=some (.tup xs)
 fz:∀a o u,H a=some (.frz o u)->H' a=some (.frz o u)
theorem Pres.of_same(h:Same H H'):Pres F H H':=⟨λa o _ e=>h a o e,λa xs e=>h a _ e,λa o u e=>h a _ e⟩
theorem Pres.upd(hp:¬F p)(ht:∀xs,H p≠some (.tup xs))(hf:∀o u,H p≠some (.frz o u)):Pres F H (upd H p o):=by
 refine⟨λa o' fa e=>?_,λa xs e=>?_,λa o' u e=>?_⟩
 ·rw[aA (by rintro rfl;exact hp fa)];exact e
 ·rw[aA (by rintro rfl;exact ht xs e)];exact e
 ·rw[aA (by rintro rfl;exact hf o' u e)];exact e
theorem Pres.sqT{K:PySem.W.Frag}(P:Pres F H H')(h:SqT K H a xs):SqT K H' a xs:=by
 rcases h with(h|⟨o,h⟩)|h
 ·exact .inl (.inl (P.tp _ _ h))
 ·exact .inl (.inr ⟨o,P.fz _ _ _ h⟩)
 ·exact .inr h
theorem Pres.sqF{K:PySem.W.Frag}(P:Pres F H H')(h:SqF K H a xs):SqF K H' a xs:=by
 rcases h with⟨o,h⟩|h
 ·exact .inl ⟨o,P.fz _ _ _ h⟩
 ·exact .inr h
section
variable{K:PySem.W.Frag}{cl:Nat->Addr}{F F':Addr->Prop}{H H':Hp}
mutual
theorem Rep.mono(P:Pres F H H')(s:∀a,F a->F' a):∀{d:D}{v:V},Rep K cl F H d v->Rep K cl F' H' d v
 |.non,_,h=>by simpa[Rep] using h
 |.bl _,_,h=>by simpa[Rep] using h
 |.int _,_,h=>by simpa[Rep] using h
 |.str _,_,h=>by simpa[Rep] using h
 |.tup xs,_,h=>by
  simp only[Rep] at h⊢;obtain⟨a,vs,e,q,r⟩:=h;exact⟨a,vs,e,P.sqT q,Reps.mono P s r⟩
 |.lst xs,_,h=>by
  simp only[Rep] at h⊢;obtain⟨a,vs,e,fa,q,r⟩:=h;exact⟨a,vs,e,s a fa,P.fr _ _ fa q,Reps.mono P s r⟩
 |.dic _ _,_,h=>by
  simp only[Rep] at h⊢;obtain⟨a,kvs,e,fa,q,k,r⟩:=h;exact⟨a,kvs,e,s a fa,P.fr _ _ fa q,k,Reps.mono P s r⟩
 |.exn c,_,h=>by
  simp only[Rep] at h⊢;obtain⟨a,e,fa,q⟩:=h;exact⟨a,e,s a fa,P.fr _ _ fa q⟩
 |.scr ns,_,h=>by
  simp only[Rep] at h⊢;obtain⟨a,e,q⟩:=h;exact⟨a,e,P.sqF q⟩
theorem Reps.mono(P:Pres F H H')(s:∀a,F a->F' a):∀{ds:List D}{vs:List V},Reps K cl F H ds vs->Reps K cl F' H' ds vs
 |[],_,h=>by simpa[Reps] using h
 |d::ds,_,h=>by
  simp only[Reps] at h⊢;obtain⟨v,r,e,h1,h2⟩:=h;exact⟨v,r,e,Rep.mono P s h1,Reps.mono P s h2⟩
end
theorem Own.mono(h:Own K cl F H d a)(P:Pres F H H')(s:∀a,F a->F' a)(ha:H' a=H a):Own K cl F' H' d a:=by
 cases d with
 |lst xs=>obtain⟨vs,e,r⟩:=h;exact⟨vs,ha.trans e,r.mono P s⟩
 |dic ks ds=>obtain⟨kvs,e,k,r⟩:=h;exact⟨kvs,ha.trans e,k,r.mono P s⟩
 |_=>exact h.elim
theorem Own.at(h:Own K cl F H d a):(∃vs,H a=some (.lst vs))\/∃kvs,H a=some (.dK kvs):=by
 cases d with
 |lst xs=>obtain⟨vs,e,r⟩:=h;exact .inl ⟨vs,e⟩
 |dic ks ds=>obtain⟨kvs,e,k,r⟩:=h;exact .inr ⟨kvs,e⟩
 |_=>exact h.elim
theorem Own.some(h:Own K cl F H d a):H a≠none:=by
 rcases h.at with⟨_,e⟩|⟨_,e⟩<;>rw[e]<;>exact λz=>nomatch z
theorem Reps.nil:Reps K cl F H [] []:=by simp[Reps]
theorem Reps.cons{d:D}{ds:List D}{v:V}{vs:List V}(h:Rep K cl F H d v)(r:Reps K cl F H ds vs):Reps K cl F H (d::ds) (v::vs):=by
 simp only[Reps];exact⟨v,vs,rfl,h,r⟩
theorem Reps.cons_inv{d:D}{ds:List D}{vs:List V}(h:Reps K cl F H (d::ds) vs):∃v r,vs=v::r/\Rep K cl F H d v/\Reps K cl F H ds r:=by simpa only[Reps] using h
theorem Reps.nil_inv{vs:List V}(h:Reps K cl F H [] vs):vs=[]:=by simpa only[Reps] using h
theorem Reps.length:∀{ds:List D}{vs:List V},Reps K cl F H ds vs->vs.length=ds.length
 |[],vs,h=>by rw[h.nil_inv];rfl
 |d::ds,vs,h=>by
  obtain⟨v,r,rfl,_,h2⟩:=h.cons_inv;rw[yJ,yJ,Reps.length h2]
theorem Reps.append:∀{ds es:List D}{vs us:List V},Reps K cl F H ds vs->Reps K cl F H es us->Reps K cl F H (ds++es) (vs++us)
 |[],_,vs,_,h,h'=>by rw[h.nil_inv];exact h'
 |d::ds,_,vs,_,h,h'=>by
  obtain⟨v,r,rfl,h1,h2⟩:=h.cons_inv;exact(Reps.append h2 h').cons h1|>λz=>z
theorem Reps.get:∀{ds:List D}{vs:List V}{i:Nat}{d:D},Reps K cl F H ds vs->ds[i]?=some d->∃v,vs[i]?=some v/\Rep K cl F H d v
 |[],_,_,_,_,e=>by simp at e
 |d::ds,vs,0,d',h,e=>by
  obtain⟨v,r,rfl,h1,h2⟩:=h.cons_inv;simp at e;subst e;exact⟨v,by simp,h1⟩
 |d::ds,vs,i+1,d',h,e=>by
  obtain⟨v,r,rfl,h1,h2⟩:=h.cons_inv;obtain⟨u,h3,h4⟩:=Reps.get (i:=i) h2 (by simpa using e);exact⟨u,by simpa using h3,h4⟩
theorem Reps.take:∀(n:Nat){ds:List D}{vs:List V},Reps K cl F H ds vs->Reps K cl F H (ds.take n) (vs.take n)
 |0,_,_,_=>by simpa using Reps.nil
 |_+1,[],vs,h=>by rw[h.nil_inv];simpa using Reps.nil
 |n+1,d::ds,vs,h=>by
  obtain⟨v,r,rfl,h1,h2⟩:=h.cons_inv;simpa using Reps.cons h1 (Reps.take n h2)
theorem Reps.drop:∀(n:Nat){ds:List D}{vs:List V},Reps K cl F H ds vs->Reps K cl F H (ds.drop n) (vs.drop n)
 |0,_,_,h=>by simpa using h
 |_+1,[],vs,h=>by rw[h.nil_inv];simpa using Reps.nil
 |n+1,d::ds,vs,h=>by
  obtain⟨v,r,rfl,h1,h2⟩:=h.cons_inv;simpa using Reps.drop n h2
theorem Reps.set:∀(n:Nat){ds:List D}{vs:List V}{d:D}{v:V},Reps K cl F H ds vs->Rep K cl F H d v->Reps K cl F H (ds.set n d) (vs.set n v)
 |_,[],vs,_,_,h,_=>by rw[h.nil_inv];simpa using Reps.nil
 |0,d::ds,vs,_,_,h,h'=>by
  obtain⟨v,r,rfl,h1,h2⟩:=h.cons_inv;simpa using Reps.cons h' h2
 |n+1,d::ds,vs,_,_,h,h'=>by
  obtain⟨v,r,rfl,h1,h2⟩:=h.cons_inv;simpa using Reps.cons h1 (Reps.set n h2 h')
end
structure Up(F:Addr->Prop)(H:Hp)(F':Addr->Prop)(H':Hp):Prop where
 same:Same H H'
 sub:∀a,F a->F' a
 new:∀a,F' a->F a\/(H a=none/\H' a≠none)
theorem Up.refl(F:Addr->Prop)(H:Hp):Up F H F H:=⟨Same.refl H,λ_ h=>h,λ_ h=>.inl h⟩
theorem Up.trans(a:Up F H F1 H1)(b:Up F1 H1 F2 H2):Up F H F2 H2:=
 ⟨a.same.trans b.same,λx h=>b.sub x (a.sub x h),λx h=>by
  rcases b.new x h with z|⟨z1,z2⟩
  ·rcases a.new x z with y|⟨y1,y2⟩
   ·exact .inl y
   ·refine .inr ⟨y1,λe=>?_⟩
    exact y2 (b.same.free e)
  ·exact .inr ⟨a.same.free z1,z2⟩⟩
theorem Up.alloc(hp:H p=none):Up F H F (L2.upd H p o):=
 ⟨λb u e=>by rw[aA (aB e hp)];exact e,λ_ h=>h,λ_ h=>.inl h⟩
noncomputable def addF(F:Addr->Prop)(p:Addr):Addr->Prop:=λa=>F a\/a=p
theorem Up.freeze(u:Up F H F' H')(hp:H p=none)(hp':H' p≠none):Up F H (addF F' p) H':=
 ⟨u.same,λa h=>.inl (u.sub a h),λa h=>h.elim (u.new a) λe=>.inr (by subst e;exact⟨hp,hp'⟩)⟩
noncomputable def Trk(F:Addr->Prop)(H:Hp):Prop:=∀a,F a->H a≠none
theorem Trk.up(t:Trk F H)(u:Up F H F' H'):Trk F' H':=λa h=>by
 rcases u.new a h with z|⟨_,z⟩
 ·exact λe=>t a z (u.same.free e)
 ·exact z
theorem Trk.fresh(t:Trk F H)(h:H p=none):¬F p:=λz=>t p z h
section
variable{K:PySem.W.Frag}{cl:Nat->Addr}{F F':Addr->Prop}{H H':Hp}{d:D}{v:V}
theorem Rep.up(h:Rep K cl F H d v)(u:Up F H F' H'):Rep K cl F' H' d v:=h.mono (Pres.of_same u.same) u.sub
theorem Reps.up(h:Reps K cl F H ds vs)(u:Up F H F' H'):Reps K cl F' H' ds vs:=h.mono (Pres.of_same u.same) u.sub
theorem Own.up(h:Own K cl F H d a)(u:Up F H F' H'):Own K cl F' H' d a:=by
 refine h.mono (Pres.of_same u.same) u.sub ?_;rcases h.at with⟨_,e⟩|⟨_,e⟩<;>rw[e]<;>exact u.same _ _ e
theorem Got.up(h:Got K cl F H d v)(u:Up F H F' H'):Got K cl F' H' d v:=h.elim (λz=>.inl (z.up u)) λ⟨p,e,o⟩=>.inr ⟨p,e,o.up u⟩
end
structure Sees(K:PySem.W.Frag)(cl:Nat->Addr)(F:Addr->Prop)(H:Hp)(σ:St)(δ:Sto):Prop where
 len:σ.length=δ.length
 trk:Trk F H
 sh:∀(i:Nat) d,δ[i]?=some (some (false,d))->∃v,σ[i]?=some (some v)/\Rep K cl F H d v
 ow:∀(i:Nat) d,δ[i]?=some (some (true,d))->∃a,σ[i]?=some (some (.ref a))/\¬F a/\Own K cl F H d a
theorem Sees.up{K:PySem.W.Frag}(h:Sees K cl F H σ δ)(u:Up F H F' H'):Sees K cl F' H' σ δ:=by
 refine⟨h.len,h.trk.up u,λi d e=>?_,λi d e=>?_⟩
 ·obtain⟨v,h1,h2⟩:=h.sh i d e
  exact⟨v,h1,h2.up u⟩
 ·obtain⟨a,h1,h2,h3⟩:=h.ow i d e
  exact⟨a,h1,λz=>(u.new a z).elim h2 λy=>h3.some y.1,h3.up u⟩
noncomputable def New(K:PySem.W.Frag)(cl:Nat->Addr)(F':Addr->Prop)(H H':Hp)(d:D)(v:V):Prop:=∃p,v=.ref p/\H p=none/\¬F' p/\Own K cl F' H' d p
noncomputable def Res(K:PySem.W.Frag)(cl:Nat->Addr)(fr:Bool)(F':Addr->Prop)(H H':Hp)(d:D)(v:V):Prop:=
 if(fr&&isOwn d)=true then New K cl F' H H' d v else Rep K cl F' H' d v
noncomputable def Gives(K:PySem.W.Frag)(cl:Nat->Addr)(m fr:Bool)(F':Addr->Prop)(H H':Hp)(d:D)(v:V):Prop:=
 if m=true then Got K cl F' H' d v else Res K cl fr F' H H' d v
section
variable{K:PySem.W.Frag}{cl:Nat->Addr}{F F':Addr->Prop}{H H':Hp}{d:D}{v:V}{fr:Bool}
theorem New.got(h:New K cl F' H H' d v):Got K cl F' H' d v:=let⟨p,e,_,_,o⟩:=h;.inr ⟨p,e,o⟩
theorem Res.got(h:Res K cl fr F' H H' d v):Got K cl F' H' d v:=by
 unfold Res at h;split at h
 ·exact h.got
 ·exact .inl h
theorem Res.gives(h:Res K cl fr F' H H' d v):Gives K cl m fr F' H H' d v:=by
 unfold Gives;split
 ·exact h.got
 ·exact h
theorem Res.of_rep(h:Rep K cl F' H' d v)(hn:(fr&&isOwn d)=false):Res K cl fr F' H H' d v:=by
 unfold Res;rw[yK (by rw[hn];exact yL)];exact h
theorem Gives.got(h:Gives K cl m fr F' H H' d v):Got K cl F' H' d v:=by
 unfold Gives at h;split at h
 ·exact h
 ·exact h.got
theorem Res.keep(h:Res K cl fr F' H H' d v)(u:Up F H F' H'):∃F2,Up F H F2 H'/\(∀a,F' a->F2 a)/\Rep K cl F2 H' d v:=by
 unfold Res at h;split at h
 ·obtain⟨p,rfl,hp,nf,o⟩:=h
  refine⟨addF F' p,u.freeze hp o.some,λa z=>.inl z,?_⟩
  cases d with
  |lst xs=>
   obtain⟨vs,e,r⟩:=o;simp only[Rep];exact⟨p,vs,rfl,.inr rfl,e,r.mono (Pres.of_same (Same.refl _)) λa z=>.inl z⟩
  |dic ks ds=>rename_i hc;simp[isOwn] at hc
  |_=>exact o.elim
 ·exact⟨F',u,λ_ z=>z,h⟩
end
noncomputable def Meet{α:Type}(r:R α)(P:α->Prop)(E:Nat->Prop):Prop:=match r with
 |.ok a=>P a|.exc c=>E c|.bad=>False
theorem Meet.bind{α β:Type}{r:R α}{f:α->R β}{P:β->Prop}{E:Nat->Prop}(h:Meet (r.bind f) P E):Meet r (λa=>Meet (f a) P E) E:=by
 cases r<;>exact h
theorem Meet.mono{α:Type}{r:R α}{P P':α->Prop}{E E':Nat->Prop}(h:Meet r P E)(hP:∀a,r=.ok a->P a->P' a)(hE:∀c,E c->E' c):Meet r P' E':=by
 cases r with
 |ok a=>exact hP a rfl h
 |exc c=>exact hE c h
 |bad=>exact h
noncomputable def Post(K:PySem.W.Frag)(cl:Nat->Addr)(XE:Nat->Hp->Prop)(m fr:Bool)(F:Addr->Prop)(H:Hp)(Q:VK)(r:R D):Prop:=
 Meet r (λd=>∀F' v H',Up F H F' H'->Gives K cl m fr F' H H' d v->Q v H') λc=>∀F' H',Up F H F' H'->XE c H'
noncomputable def PostT(XE:Nat->Hp->Prop)(F:Addr->Prop)(H:Hp)(Q:Bool->Hp->Prop)(r:R Bool):Prop:=
 Meet r (λb=>∀F' H',Up F H F' H'->Q b H') λc=>∀F' H',Up F H F' H'->XE c H'
noncomputable def PostA(K:PySem.W.Frag)(cl:Nat->Addr)(XE:Nat->Hp->Prop)(m:Bool)(F:Addr->Prop)(H:Hp)(Q:List V->Hp->Prop)(r:R (List D)):Prop:=
 Meet r (λds=>∀F' vs H',Up F H F' H'->(if m=true then Paired (Got K cl F' H') ds vs else Reps K cl F' H' ds vs)->Q vs H') λc=>∀F' H',Up F H F' H'->XE c H'
section
variable{K:PySem.W.Frag}{cl:Nat->Addr}{XE:Nat->Hp->Prop}{m fr:Bool}{F F':Addr->Prop}{H H' H0:Hp}{Q:VK}{r:R D}{d:D}{v:V}
theorem New.base(h:New K cl F' H0 H' d v)(s:Same H H0):New K cl F' H H' d v:=let⟨p,e,hp,n,o⟩:=h;⟨p,e,s.free hp,n,o⟩
theorem Res.base(h:Res K cl fr F' H0 H' d v)(s:Same H H0):Res K cl fr F' H H' d v:=by
 unfold Res at h⊢;split
 ·rename_i c;rw[yM c] at h;exact h.base s
 ·rename_i c;rw[yK c] at h;exact h
theorem Gives.base(h:Gives K cl m fr F' H0 H' d v)(s:Same H H0):Gives K cl m fr F' H H' d v:=by
 unfold Gives at h⊢;split
 ·rename_i c;rw[yM c] at h;exact h
 ·rename_i c;rw[yK c] at h;exact h.base s
theorem Post.up(h:Post K cl XE m fr F H Q r)(u:Up F H F' H'):Post K cl XE m fr F' H' Q r:=
 Meet.mono h (λd _ q F2 v H2 u2 g=>q F2 v H2 (u.trans u2) (g.base u.same)) λc q F2 H2 u2=>q F2 H2 (u.trans u2)
theorem PostT.up{Q:Bool->Hp->Prop}{r:R Bool}(h:PostT XE F H Q r)(u:Up F H F' H'):PostT XE F' H' Q r:=
 Meet.mono h (λd _ q F2 H2 u2=>q F2 H2 (u.trans u2)) λc q F2 H2 u2=>q F2 H2 (u.trans u2)
theorem PostA.up{Q:List V->Hp->Prop}{r:R (List D)}(h:PostA K cl XE m F H Q r)(u:Up F H F' H'):PostA K cl XE m F' H' Q r:=
 Meet.mono h (λd _ q F2 vs H2 u2 g=>q F2 vs H2 (u.trans u2) g) λc q F2 H2 u2=>q F2 H2 (u.trans u2)
theorem Post.here(h:Post K cl XE m fr F H Q (.ok d))(g:Res K cl fr F H H d v):Q v H:=h F v H (Up.refl F H) g.gives
theorem Post.hereR(h:Post K cl XE m fr F H Q (.ok d))(g:Rep K cl F H d v)(hn:(fr&&isOwn d)=false):Q v H:=h.here (.of_rep g hn)
end
section
variable(X:Cx)(cl:Nat->Addr)(XE:Nat->St->Hp->Prop)(Φ:Nat->List D->R D)(G:List D)
structure OkE(m:Bool)(ex:Ex)(e:Expr):Prop where
 ok:∃t,PE X e t/\∀F σ δ H Q,Sees X.K cl F H σ δ->Post X.K cl (λc=>XE c σ) m (frsh ex) F H Q (ev Φ G m ex δ)->t σ H Q
structure OkT(tx:Tx)(e:Expr):Prop where
 ok:∃t,PT X e t/\∀F σ δ H Q,Sees X.K cl F H σ δ->PostT (λc=>XE c σ) F H Q (evT Φ G tx δ)->t σ H Q
structure OkW(tx:Tx)(e:Expr):Prop where
 ok:∃t,PW X e t/\∀F σ δ H Q,Sees X.K cl F H σ δ->PostT (λc=>XE c σ) F H Q (evT Φ G tx δ)->t σ H Q
structure OkA(m:Bool)(exs:List Ex)(es:List Expr):Prop where
 ok:∃t,PA X es t/\∀F σ δ H Q,Sees X.K cl F H σ δ->PostA X.K cl (λc=>XE c σ) m F H Q (evs Φ G m exs δ)->t σ H Q
end
section
variable{X:Cx}{cl:Nat->Addr}{XE:Nat->St->Hp->Prop}{YE:Nat->Hp->Prop}{Φ:Nat->List D->R D}{G:List D}{m:Bool}
theorem ok_var(hN:X.N[i]?=some x)(hv:Vis X.env.scope x)(hd:(x==("__debug__":Str))=false)(hcd:(x==("__classdict__":Str))=false):
  OkE X cl XE Φ G m (.var i) (.Name x pos):=by
 refine⟨_,gM hN hv hd hcd,λF σ δ H Q S h=>?_⟩;simp only[ev] at h
 cases e:δ[i]? with
 |none=>cases m<;>simp[rdV,rdR,e] at h<;>exact False.elim h
 |some o=>
  cases o with
  |none=>cases m<;>simp[rdV,rdR,e] at h<;>exact False.elim h
  |some p=>
   obtain⟨b,d⟩:=p
   cases b with
   |false=>
    obtain⟨v,h1,h2⟩:=S.sh i d e;refine⟨v,h1,?_⟩;cases m<;>simp[rdV,rdR,e] at h<;>exact h F v H (Up.refl F H) (Res.gives (.of_rep h2 (by simp[frsh])))
   |true=>
    obtain⟨a,h1,h2,h3⟩:=S.ow i d e;refine⟨.ref a,h1,?_⟩
    cases m with
    |false=>simp[rdV,e] at h;exact False.elim h
    |true=>
     simp[rdR,e] at h;exact h F _ H (Up.refl F H) (by unfold Gives;rw[yM rfl];exact .inr ⟨a,rfl,h3⟩)
theorem ok_int:OkE X cl XE Φ G m (.cst (.int i)) (.Constant (.int i) j pos):=
 ⟨_,aG,λF σ δ H Q S h=>Post.hereR h (by simp[Rep]) (by simp[frsh])⟩
theorem ok_bl:OkE X cl XE Φ G m (.cst (.bl i)) (.Constant (.bool i) j pos):=
 ⟨_,pe_bl,λF σ δ H Q S h=>Post.hereR h (by simp[Rep]) (by simp[frsh])⟩
theorem f9(hg:Gl X x)(hm:X.mg x=some u)(r:RelV v u)(hd:(x==("__debug__":Str))=false)(hr:∀d,G[g]?=some d->∀F H,Rep X.K cl F H d v):
  OkE X cl XE Φ G m (.glob g) (.Name x pos):=by
 refine⟨_,kL hg hm r hd,λF σ δ H Q S h=>?_⟩;simp only[ev] at h
 cases e:G[g]? with
 |none=>rw[e] at h;exact False.elim h
 |some d=>rw[e] at h;exact Post.hereR h (hr d e F H) (by simp[frsh])
theorem two{a b:Expr}{o:D->D->R D}(ia:∀F σ δ H Q,Sees X.K cl F H σ δ->Post X.K cl (λc=>XE c σ) true (frsh ea) F H Q (ev Φ G true ea δ)->ta σ H Q)
  (ib:∀F σ δ H Q,Sees X.K cl F H σ δ->Post X.K cl (λc=>XE c σ) true (frsh eb) F H Q (ev Φ G true eb δ)->tb σ H Q)
  (ho:∀(YE:Nat->Hp->Prop) F H x y p q Q,Trk F H->Got X.K cl F H p x->Got X.K cl F H q y->Post X.K cl YE m fr F H Q (o p q)->r x y H Q)
  (S:Sees X.K cl F H σ δ) (h:Post X.K cl (λc=>XE c σ) m fr F H Q ((ev Φ G true ea δ).bind λx=>(ev Φ G true eb δ).bind λy=>o x y)):tOp r ta tb σ H Q:=by
 refine ia F σ δ H _ S (Meet.mono h.bind (λp _ hp F1 x H1 u1 g1=>?_) λc z=>z);have hp1:Post X.K cl (λc=>XE c σ) m fr F1 H1 Q ((ev Φ G true eb δ).bind λy=>o p y):=Post.up hp u1;refine ib F1 σ δ H1 _ (S.up u1) (Meet.mono hp1.bind (λq _ hq F2 y H2 u2 g2=>?_) λc z=>z);exact ho _ F2 H2 x y p q Q ((S.up u1).up u2).trk (g1.got.up u2) g2.got (Post.up hq u2)
theorem gT(hr:OpR X (binaryOp op) r)(ia:OkE X cl XE Φ G true ea a)(ib:OkE X cl XE Φ G true eb b)
  (ho:∀(YE:Nat->Hp->Prop) F H x y p q Q,Trk F H->Got X.K cl F H p x->Got X.K cl F H q y->Post X.K cl YE m (frsh (.op2 o ea eb)) F H Q (op2 o p q)->r x y H Q):OkE X cl XE Φ G m (.op2 o ea eb) (.BinOp a op b pos):=by
 obtain⟨ta,pa,ia⟩:=ia;obtain⟨tb,pb,ib⟩:=ib;exact⟨_,bV hr pa pb,λF σ δ H Q S h=>two (a:=a) (b:=b) (o:=op2 o) ia ib ho S (by simpa only[ev] using h)⟩
theorem ok_ix(hr:IxR X r)(hs:PlainIx b)(ia:OkE X cl XE Φ G true ea a)(ib:OkE X cl XE Φ G true eb b)
  (ho:∀(YE:Nat->Hp->Prop) F H x y p q Q,Trk F H->Got X.K cl F H p x->Got X.K cl F H q y->Post X.K cl YE m (frsh (.op2 .at ea eb)) F H Q (op2 .at p q)->r x y H Q):OkE X cl XE Φ G m (.op2 .at ea eb) (.Subscript a b pos):=by
 obtain⟨ta,pa,ia⟩:=ia;obtain⟨tb,pb,ib⟩:=ib;exact⟨_,u0 hr pa pb hs,λF σ δ H Q S h=>two (a:=a) (b:=b) (o:=op2 .at) ia ib ho S (by simpa only[ev] using h)⟩
theorem ok_un(hr:UnR X (unaryOp op) r)(ia:OkE X cl XE Φ G true ea a)
  (ho:∀(YE:Nat->Hp->Prop) F H x p Q,Trk F H->Got X.K cl F H p x->Post X.K cl YE m (frsh (.op1 o ea)) F H Q (op1 o p)->r x H Q):OkE X cl XE Φ G m (.op1 o ea) (.UnaryOp op a pos):=by
 obtain⟨ta,pa,ia⟩:=ia;refine⟨_,qK hr pa,λF σ δ H Q S h=>?_⟩;simp only[ev] at h;exact ia F σ δ H _ S (Meet.mono (Meet.bind h) (λp _ hp F1 x H1 u1 g1=>ho _ F1 H1 x p Q (S.up u1).trk g1.got (Post.up hp u1)) λc z=>z)
theorem bG:OkA X cl XE Φ G m [] []:=⟨_,pa_nil,λF σ δ H Q S h=>by
 simp only[evs] at h;refine h F [] H (Up.refl F H) ?_;cases m
 ·rw[yK yL];exact Reps.nil
 ·rw[yM rfl];exact .nil⟩
theorem aU(hs:starEach (a::as) X.env=(false,eval a X.env)::starEach as X.env)(ia:OkE X cl XE Φ G m ea a)(ir:OkA X cl XE Φ G m es as):
  OkA X cl XE Φ G m (ea::es) (a::as):=by
 obtain⟨ta,pa,ia⟩:=ia;obtain⟨tr,pr,ir⟩:=ir;refine⟨_,pa_cons pa pr hs,λF σ δ H Q S h=>?_⟩;simp only[evs] at h;refine ia F σ δ H _ S (Meet.mono (Meet.bind h) (λp _ hp F1 x H1 u1 g1=>?_) λc z=>z)
 cases m with
 |true=>
  have hp1:PostA X.K cl (λc=>XE c σ) true F1 H1 Q ((evs Φ G true es δ).bind λxs=>.ok (p::xs)):=PostA.up hp u1;refine ir F1 σ δ H1 _ (S.up u1) (Meet.mono (Meet.bind hp1) (λps _ hq F2 xs H2 u2 g2=>?_) λc z=>z);rw[yM rfl] at g2;exact hq F2 (x::xs) H2 u2 (by rw[yM rfl];exact .cons (g1.got.up u2) g2)
 |false=>
  unfold Gives at g1;rw[yK yL] at g1;obtain⟨F1',u1',sub,rp⟩:=g1.keep u1;have hp1:PostA X.K cl (λc=>XE c σ) false F1' H1 Q ((evs Φ G false es δ).bind λxs=>.ok (p::xs)):=PostA.up hp u1';refine ir F1' σ δ H1 _ (S.up u1') (Meet.mono (Meet.bind hp1) (λps _ hq F2 xs H2 u2 g2=>?_) λc z=>z);rw[yK yL] at g2;exact hq F2 (x::xs) H2 u2 (by rw[yK yL];exact .cons (rp.up u2) g2)
end
theorem gU:∀{ds es:List D},eqDs ds es=true->ds.length=es.length
 |[],[],_=>rfl
 |[],_::_,h=>by simp[eqDs] at h
 |_::_,[],h=>by simp[eqDs] at h
 |a::as,b::bs,h=>by
  simp only[eqDs,yU] at h;rw[yJ,yJ,gU h.2]
theorem gW:∀(ds es:List D),ds.length=es.length->eqDs ds es=(List.range ds.length).all λj=>eqD (ds.getD j .non) (es.getD j .non)
 |[],[],_=>by simp[eqDs]
 |[],_::_,h=>by simp at h
 |_::_,[],h=>by simp at h
 |a::as,b::bs,h=>by
  have ih:=gW as bs (by simpa using h);rw[eqDs,ih,yJ,List.range_succ_eq_map,List.all_cons,List.all_map];rfl
section
variable{X:Cx}{pins:List (Addr×Obj)}{σ:St}{H:Hp}{s:Shared}{cl:Nat->Addr}{F:Addr->Prop}
theorem Got.tup{xs:List D}{v:V}(h:Got X.K cl F H (.tup xs) v):∃a vs,v=.ref a/\SqT X.K H a vs/\Reps X.K cl F H xs vs:=by
 rcases h with h|⟨p,_,o⟩
 ·simpa only[Rep] using h
 ·exact o.elim
theorem Got.lst(h:Got X.K cl F H (.lst xs) v):∃a vs,v=.ref a/\H a=some (.lst vs)/\Reps X.K cl F H xs vs:=by
 rcases h with h|⟨p,e,o⟩
 ·simp only[Rep] at h
  obtain⟨a,vs,e,_,q,r⟩:=h;exact⟨a,vs,e,q,r⟩
 ·obtain⟨vs,q,r⟩:=o
  exact⟨p,vs,e,q,r⟩
theorem Got.int(h:Got X.K cl F H (.int i) v):v=.int i:=by
 rcases h with h|⟨p,_,o⟩
 ·simpa only[Rep] using h
 ·exact o.elim
theorem Got.bl(h:Got X.K cl F H (.bl i) v):v=.bl i:=by
 rcases h with h|⟨p,_,o⟩
 ·simpa only[Rep] using h
 ·exact o.elim
theorem Got.non(h:Got X.K cl F H .non v):v=.non:=by
 rcases h with h|⟨p,_,o⟩
 ·simpa only[Rep] using h
 ·exact o.elim
theorem Got.str(h:Got X.K cl F H (.str x) v):v=.str ⟨x.toArray⟩:=by
 rcases h with h|⟨p,_,o⟩
 ·simpa only[Rep] using h
 ·exact o.elim
theorem Got.scr(h:Got X.K cl F H (.scr ns) v):∃a,v=.ref a/\SqF X.K H a (ns.map V.int):=by
 rcases h with h|⟨p,_,o⟩
 ·simpa only[Rep] using h
 ·exact o.elim
theorem Got.dic(h:Got X.K cl F H (.dic ks ds) v):∃a kvs,v=.ref a/\H a=some (.dK kvs)/\kvs.map (·.1)=ks.map Sum.inl/\Reps X.K cl F H ds (kvs.map (·.2)):=by
 rcases h with h|⟨p,e,o⟩
 ·simp only[Rep] at h
  obtain⟨a,kvs,e,_,h1,h2,h3⟩:=h;exact⟨a,kvs,e,h1,h2,h3⟩
 ·obtain⟨kvs,h1,h2,h3⟩:=o
  exact⟨p,kvs,e,h1,h2,h3⟩
theorem fH(I:Inv X pins σ H s)(h1:H a=some (.lst xs))(h2:SqT X.K H a ys):False:=by
 obtain⟨its,_,⟨o,ho,hc,n,hd⟩,_⟩:=I.tuple h2;obtain⟨_,its2,n2,_,e⟩:=I.hok a _ h1;rw[ho] at e;have:=y8 e;subst this;exact absurd (show Value.type "list"=Value.type "tuple" from hc) (by decide)
theorem qU(I:Inv X pins σ H s):∀(n:Nat)(d e:D)(v:V),pln n d=true->pln n e=true->Got X.K cl F H d v->Got X.K cl F H e v->eqD d e=true:=by
 intro n
 induction n using Nat.strongRecOn with
 |ind N ih0=>
  have many:∀(n:Nat),n<N->∀(ds es:List D)(vs:List V),plns n ds=true->plns n es=true->Reps X.K cl F H ds vs->Reps X.K cl F H es vs->eqDs ds es=true:=by
   intro n hn;have ih:=ih0 n hn;intro ds
   induction ds with
   |nil=>
    intro es vs _ _ r1 r2;rw[r1.nil_inv] at r2
    cases es with
    |nil=>rfl
    |cons e es=>obtain⟨_,_,z,_⟩:=r2.cons_inv;cases z
   |cons d ds ih2=>
    intro es vs p1 p2 r1 r2;obtain⟨v,r,rfl,a1,a2⟩:=r1.cons_inv
    cases es with
    |nil=>have z:=r2.nil_inv;cases z
    |cons e es=>
     obtain⟨v',r',z,b1,b2⟩:=r2.cons_inv;cases z;simp only[plns,yU] at p1 p2;simp only[eqDs,yU];exact⟨ih d e v p1.1 p2.1 (.inl a1) (.inl b1),ih2 es r p1.2 p2.2 a2 b2⟩
  intro d e v pd pe gd ge
  cases d with
  |tup xs=>
   obtain⟨a,vs,rfl,q,r⟩:=gd.tup
   cases e with
   |tup ys=>
    obtain⟨a',vs',z,q',r'⟩:=ge.tup;cases z;have:=I.tuple_inj q q';subst this;simp only[pln,yU,zQ] at pd pe;simpa only[eqD] using many (N-1) (Nat.sub_lt pd.1 Nat.one_pos) xs ys vs pd.2 pe.2 r r'
   |lst ys=>
    obtain⟨a',vs',z,q',r'⟩:=ge.lst;cases z;exact(fH I q' q).elim
   |int i=>have z:=ge.int;cases z
   |bl i=>have z:=ge.bl;cases z
   |non=>have z:=ge.non;cases z
   |str i=>have z:=ge.str;cases z
   |dic _ _=>simp[pln] at pe
   |exn _=>simp[pln] at pe
   |scr _=>simp[pln] at pe
  |lst xs=>
   obtain⟨a,vs,rfl,q,r⟩:=gd.lst
   cases e with
   |tup ys=>
    obtain⟨a',vs',z,q',r'⟩:=ge.tup;cases z;exact(fH I q q').elim
   |lst ys=>
    obtain⟨a',vs',z,q',r'⟩:=ge.lst;cases z;rw[q] at q';cases q';simp only[pln,yU,zQ] at pd pe;simpa only[eqD] using many (N-1) (Nat.sub_lt pd.1 Nat.one_pos) xs ys vs pd.2 pe.2 r r'
   |int i=>have z:=ge.int;cases z
   |bl i=>have z:=ge.bl;cases z
   |non=>have z:=ge.non;cases z
   |str i=>have z:=ge.str;cases z
   |dic _ _=>simp[pln] at pe
   |exn _=>simp[pln] at pe
   |scr _=>simp[pln] at pe
  |dic _ _=>simp[pln] at pd
  |exn _=>simp[pln] at pd
  |scr _=>simp[pln] at pd
  |non=>
   have z:=gd.non;subst z
   cases e with
   |non=>rfl
   |tup ys=>obtain⟨_,_,z,_⟩:=ge.tup;cases z
   |lst ys=>obtain⟨_,_,z,_⟩:=ge.lst;cases z
   |int i=>have z:=ge.int;cases z
   |bl i=>have z:=ge.bl;cases z
   |str i=>have z:=ge.str;cases z
   |dic _ _=>simp[pln] at pe
   |exn _=>simp[pln] at pe
   |scr _=>simp[pln] at pe
  |bl b=>
   have z:=gd.bl;subst z
   cases e with
   |non=>have z:=ge.non;cases z
   |tup ys=>obtain⟨_,_,z,_⟩:=ge.tup;cases z
   |lst ys=>obtain⟨_,_,z,_⟩:=ge.lst;cases z
   |int i=>have z:=ge.int;cases z
   |bl i=>have z:=ge.bl;cases z;simp[eqD]
   |str i=>have z:=ge.str;cases z
   |dic _ _=>simp[pln] at pe
   |exn _=>simp[pln] at pe
   |scr _=>simp[pln] at pe
  |int b=>
   have z:=gd.int;subst z
   cases e with
   |non=>have z:=ge.non;cases z
   |tup ys=>obtain⟨_,_,z,_⟩:=ge.tup;cases z
   |lst ys=>obtain⟨_,_,z,_⟩:=ge.lst;cases z
   |int i=>have z:=ge.int;cases z;simp[eqD]
   |bl i=>have z:=ge.bl;cases z
   |str i=>have z:=ge.str;cases z
   |dic _ _=>simp[pln] at pe
   |exn _=>simp[pln] at pe
   |scr _=>simp[pln] at pe
  |str b=>
   have z:=gd.str;subst z
   cases e with
   |non=>have z:=ge.non;cases z
   |tup ys=>obtain⟨_,_,z,_⟩:=ge.tup;cases z
   |lst ys=>obtain⟨_,_,z,_⟩:=ge.lst;cases z
   |int i=>have z:=ge.int;cases z
   |bl i=>have z:=ge.bl;cases z
   |str i=>have z:=ge.str;simp at z;simp[eqD,z]
   |dic _ _=>simp[pln] at pe
   |exn _=>simp[pln] at pe
   |scr _=>simp[pln] at pe
end
theorem gA(x y:List Nat):((⟨x.toArray⟩:Str)==⟨y.toArray⟩)=(x==y):=by
 rw[Bool.eq_iff_iff];simp
theorem Reps.at{K:PySem.W.Frag}(r:Reps K cl F H ds vs)(h:i<ds.length):∃v,vs[i]?=some v/\Rep K cl F H (ds.getD i .non) v:=by
 obtain⟨v,h1,h2⟩:=r.get (i:=i) (d:=ds.getD i .non) (by simp[List.getD,yS h]);exact⟨v,h1,h2⟩
theorem gX:∀{ds:List D}{i:Nat},plns n ds=true->i<ds.length->pln n (ds.getD i .non)=true
 |[],_,_,h=>by simp at h
 |d::ds,0,p,_=>by simp only[plns,yU] at p;simpa using p.1
 |d::ds,i+1,p,h=>by
  simp only[plns,yU] at p;simpa using gX (i:=i) p.2 (by simpa using h)
section
variable{X:Cx}{pins:List (Addr×Obj)}{σ:St}{H:Hp}{s:Shared}{cl:Nat->Addr}{F:Addr->Prop}
theorem cS(I:Inv X pins σ H s)(ih:∀(d e:D)(x y:V)(u w:Value),pln n d=true->pln n e=true->Got X.K cl F H d x->Got X.K cl F H e y->RelV x u->RelV y w->SeqAt.EqAt A s u w (eqD d e))
  (r1:Reps X.K cl F H ds vs) (r2:Reps X.K cl F H es ws) (p1:plns n ds=true) (p2:plns n es=true) (q1:Vals vs us) (q2:Vals ws zs)
  (j:Nat) (h1:j<us.toArray.size) (h2:j<zs.toArray.size):SeqAt.EqAt A s us.toArray[j] zs.toArray[j] (eqD (ds.getD j .non) (es.getD j .non)):=by
 have l1:j<ds.length:=by rw[←r1.length,q1.length];simpa using h1
 have l2:j<es.length:=by rw[←r2.length,q2.length];simpa using h2
 obtain⟨v,e1,a1⟩:=r1.at l1;obtain⟨w,e2,a2⟩:=r2.at l2;obtain⟨u,f1,b1⟩:=q1.get e1;obtain⟨z,f2,b2⟩:=q2.get e2;have g1:us.toArray[j]=u:=by
  have:j<us.length:=by simpa using h1
  simpa[this] using f1
 have g2:zs.toArray[j]=z:=by
  have:j<zs.length:=by simpa using h2
  simpa[this] using f2
 rw[g1,g2];exact ih _ _ v w u z (gX p1 l1) (gX p2 l2) (.inl a1) (.inl a2) b1 b2
theorem o5(I:Inv X pins σ H s){A:Around}(hu:A.units<cLine)(ih:∀(d e:D)(x y:V)(u w:Value),pln n d=true->pln n e=true->Got X.K cl F H d x->Got X.K cl F H e y->RelV x u->RelV y w->SeqAt.EqAt A.in1 s u w (eqD d e))
  (p1:plns n ds=true) (p2:plns n es=true) (h1:SqT X.K H a vs) (h2:SqT X.K H b ws) (r1:Reps X.K cl F H ds vs) (r2:Reps X.K cl F H es ws):
  ∃items items2 e,s.heap.IsTuple a items/\s.heap.IsTuple b items2/\(∀j (g1:j<items.size)(g2:j<items2.size),SeqAt.EqAt A.in1 s items[j] items2[j] (e j))/\
   ((List.range (min items.size items2.size)).all e&&items.size==items2.size)=eqDs ds es:=by
 obtain⟨its,q1,t1,_⟩:=I.tuple h1;obtain⟨its2,q2,t2,_⟩:=I.tuple h2;refine⟨its.toArray,its2.toArray,λj=>eqD (ds.getD j .non) (es.getD j .non),t1,t2,cS I ih r1 r2 p1 p2 q1 q2,?_⟩;have l1:its.toArray.size=ds.length:=by rw[yW,←q1.length,r1.length]
 have l2:its2.toArray.size=es.length:=by rw[yW,←q2.length,r2.length]
 rw[l1,l2];by_cases hl:ds.length=es.length
 ·rw[gW ds es hl,hl];simp
 ·have:eqDs ds es=false:=by
   cases h:eqDs ds es with
   |false=>rfl
   |true=>exact absurd (gU h) hl
  rw[this];simp[hl]
theorem o6(I:Inv X pins σ H s)(hu:A.units<cLine)(ih:∀(d e:D)(x y:V)(u w:Value),pln n d=true->pln n e=true->Got X.K cl F H d x->Got X.K cl F H e y->RelV x u->RelV y w->SeqAt.EqAt A.in1 s u w (eqD d e))
  (p1:plns n ds=true) (p2:plns n es=true) (h1:H a=some (.lst vs)) (h2:H b=some (.lst ws)) (r1:Reps X.K cl F H ds vs) (r2:Reps X.K cl F H es ws):
  SeqAt.RcAt A s (.ref a) (.ref b) (eqDs ds es)/\SeqAt.RcNeAt A s (.ref a) (.ref b) (!eqDs ds es):=by
 obtain⟨its,q1,t1,_⟩:=I.list (SqL.of (K:=X.K) h1);obtain⟨its2,q2,t2,_⟩:=I.list (SqL.of (K:=X.K) h2);have l1:its.toArray.size=ds.length:=by rw[yW,←q1.length,r1.length]
 have l2:its2.toArray.size=es.length:=by rw[yW,←q2.length,r2.length]
 by_cases hl:ds.length=es.length
 ·have hs:its.toArray.size=its2.toArray.size:=by rw[l1,l2,hl]
  have e1:=SeqAt.RcAt.lists (e:=λj=>eqD (ds.getD j .non) (es.getD j .non)) t1.isList t2.isList hs hu (cS I ih r1 r2 p1 p2 q1 q2);have e2:=SeqAt.RcNeAt.lists (e:=λj=>eqD (ds.getD j .non) (es.getD j .non)) t1.isList t2.isList hs hu (cS I ih r1 r2 p1 p2 q1 q2);rw[l1,←gW ds es hl] at e1 e2;exact⟨e1,e2⟩
 ·have:eqDs ds es=false:=by
   cases h:eqDs ds es with
   |false=>rfl
   |true=>exact absurd (gU h) hl
  rw[this];have hs:(its.toArray.size !=its2.toArray.size)=true:=by rw[l1,l2];simpa using hl
  exact⟨SeqAt.RcAt.lists_lengths t1.isList t2.isList hs hu,SeqAt.RcNeAt.lists_lengths t1.isList t2.isList hs hu⟩
theorem vH(I:Inv X pins σ H s):∀(n:Nat)(A:Around),A.units+n<cLine->∀(d e:D)(x y:V)(u w:Value),pln n d=true->pln n e=true->Got X.K cl F H d x->Got X.K cl F H e y->RelV x u->RelV y w->
  SeqAt.EqAt A s u w (eqD d e):=by
 intro n
 induction n using Nat.strongRecOn with
 |ind N ih0=>
  intro A hu d e x y u w pd pe gd ge rx ry;have hu0:A.units<cLine:=by omega
  have tupR:∀{a:Addr}{vs:List V},SqT X.K H a vs->∃its,s.heap.IsTuple a its:=λh=>let⟨its,_,t,_⟩:=I.tuple h;⟨_,t⟩;have lstR:∀{a:Addr}{vs:List V},H a=some (.lst vs)->∃its,s.heap.IsList a its:=λh=>let⟨its,_,t,_⟩:=I.list (SqL.of (K:=X.K) h);⟨_,t.isList⟩
  cases d with
  |dic _ _=>simp[pln] at pd
  |exn _=>simp[pln] at pd
  |scr _=>simp[pln] at pd
  |tup ds=>
   obtain⟨a,vs,rfl,h1,r1⟩:=gd.tup;cases (show u=Value.ref a from rx);obtain⟨it1,t1⟩:=tupR h1;have pd':=pd;simp only[pln,yU,zQ] at pd
   cases e with
   |dic _ _=>simp[pln] at pe
   |exn _=>simp[pln] at pe
   |scr _=>simp[pln] at pe
   |tup es=>
    obtain⟨b,ws,rfl,h2,r2⟩:=ge.tup;cases (show w=Value.ref b from ry);have pe':=pe;simp only[pln,yU,zQ] at pe;by_cases hab:a=b
    ·subst hab
     rw[qU I N (.tup ds) (.tup es) (.ref a) pd' pe' gd ge];exact SeqAt.EqAt.same _
    ·obtain⟨i1,i2,ee,a1,a2,a3,a4⟩:=o5 I (A:=A) hu0 (ih0 (N-1) (Nat.sub_lt pd.1 Nat.one_pos) A.in1 (by show A.units+1+(N-1)<cLine;omega)) pd.2 pe.2 h1 h2 r1 r2
     have:=SeqAt.EqAt.of_refs hab (SeqAt.RcAt.tuples a1 a2 hu0 a3);rw[a4] at this;simpa only[eqD] using this
   |lst es=>
    obtain⟨b,ws,rfl,h2,r2⟩:=ge.lst;cases (show w=Value.ref b from ry);obtain⟨it2,t2⟩:=lstR h2;simpa only[eqD] using SeqAt.EqAt.tuple_list t1 t2 hu0
   |non=>rw[ge.non] at ry;cases ry;simpa only[eqD] using SeqAt.EqAt.tuple_none t1 hu0
   |bl b=>rw[ge.bl] at ry;cases ry;simpa only[eqD] using SeqAt.EqAt.tuple_bool b t1 hu0
   |int b=>rw[ge.int] at ry;obtain⟨t,rfl⟩:=ry;simpa only[eqD] using SeqAt.EqAt.tuple_int b t t1 hu0
   |str b=>rw[ge.str] at ry;obtain⟨t,rfl⟩:=ry;simpa only[eqD] using SeqAt.EqAt.tuple_str _ t t1 hu0
  |lst ds=>
   obtain⟨a,vs,rfl,h1,r1⟩:=gd.lst;cases (show u=Value.ref a from rx);obtain⟨it1,t1⟩:=lstR h1;have pd':=pd;simp only[pln,yU,zQ] at pd
   cases e with
   |dic _ _=>simp[pln] at pe
   |exn _=>simp[pln] at pe
   |scr _=>simp[pln] at pe
   |lst es=>
    obtain⟨b,ws,rfl,h2,r2⟩:=ge.lst;cases (show w=Value.ref b from ry);have pe':=pe;simp only[pln,yU,zQ] at pe;by_cases hab:a=b
    ·subst hab
     rw[qU I N (.lst ds) (.lst es) (.ref a) pd' pe' gd ge];exact SeqAt.EqAt.same _
    ·have:=SeqAt.EqAt.of_refs hab (o6 I (A:=A) hu0 (ih0 (N-1) (Nat.sub_lt pd.1 Nat.one_pos) A.in1 (by show A.units+1+(N-1)<cLine;omega)) pd.2 pe.2 h1 h2 r1 r2).1
     simpa only[eqD] using this
   |tup es=>
    obtain⟨b,ws,rfl,h2,r2⟩:=ge.tup;cases (show w=Value.ref b from ry);obtain⟨it2,t2⟩:=tupR h2;simpa only[eqD] using SeqAt.EqAt.list_tuple t1 t2 hu0
   |non=>rw[ge.non] at ry;cases ry;simpa only[eqD] using SeqAt.EqAt.list_none t1 hu0
   |bl b=>rw[ge.bl] at ry;cases ry;simpa only[eqD] using SeqAt.EqAt.list_bool b t1 hu0
   |int b=>rw[ge.int] at ry;obtain⟨t,rfl⟩:=ry;simpa only[eqD] using SeqAt.EqAt.list_int b t t1 hu0
   |str b=>rw[ge.str] at ry;obtain⟨t,rfl⟩:=ry;simpa only[eqD] using SeqAt.EqAt.list_str _ t t1 hu0
  |non=>
   rw[gd.non] at rx;cases rx
   cases e with
   |dic _ _=>simp[pln] at pe
   |exn _=>simp[pln] at pe
   |scr _=>simp[pln] at pe
   |tup es=>obtain⟨b,ws,rfl,h2,r2⟩:=ge.tup;cases (show w=Value.ref b from ry);obtain⟨it2,t2⟩:=tupR h2;simpa only[eqD] using SeqAt.EqAt.none_tuple t2 hu0
   |lst es=>obtain⟨b,ws,rfl,h2,r2⟩:=ge.lst;cases (show w=Value.ref b from ry);obtain⟨it2,t2⟩:=lstR h2;simpa only[eqD] using SeqAt.EqAt.none_list t2 hu0
   |non=>rw[ge.non] at ry;simpa only[eqD,eqV] using aR (y:=.non) (x:=.non) rfl ry rfl rfl
   |bl b=>rw[ge.bl] at ry;simpa only[eqD,eqV] using aR (y:=.non) (x:=.bl b) rfl ry rfl rfl
   |int b=>rw[ge.int] at ry;simpa only[eqD,eqV] using aR (y:=.non) (x:=.int b) rfl ry rfl rfl
   |str b=>rw[ge.str] at ry;simpa only[eqD,eqV] using aR (y:=.non) (x:=.str _) rfl ry rfl rfl
  |bl c=>
   rw[gd.bl] at rx
   cases e with
   |dic _ _=>simp[pln] at pe
   |exn _=>simp[pln] at pe
   |scr _=>simp[pln] at pe
   |tup es=>cases rx;obtain⟨b,ws,rfl,h2,r2⟩:=ge.tup;cases (show w=Value.ref b from ry);obtain⟨it2,t2⟩:=tupR h2;simpa only[eqD] using SeqAt.EqAt.bool_tuple c t2 hu0
   |lst es=>cases rx;obtain⟨b,ws,rfl,h2,r2⟩:=ge.lst;cases (show w=Value.ref b from ry);obtain⟨it2,t2⟩:=lstR h2;simpa only[eqD] using SeqAt.EqAt.bool_list c t2 hu0
   |non=>rw[ge.non] at ry;simpa only[eqD,eqV] using aR (y:=.bl c) (x:=.non) rx ry rfl rfl
   |bl b=>rw[ge.bl] at ry;simpa only[eqD,eqV] using aR (y:=.bl c) (x:=.bl b) rx ry rfl rfl
   |int b=>rw[ge.int] at ry;simpa only[eqD,eqV] using aR (y:=.bl c) (x:=.int b) rx ry rfl rfl
   |str b=>rw[ge.str] at ry;simpa only[eqD,eqV] using aR (y:=.bl c) (x:=.str _) rx ry rfl rfl
  |int c=>
   rw[gd.int] at rx
   cases e with
   |dic _ _=>simp[pln] at pe
   |exn _=>simp[pln] at pe
   |scr _=>simp[pln] at pe
   |tup es=>obtain⟨t,rfl⟩:=rx;obtain⟨b,ws,rfl,h2,r2⟩:=ge.tup;cases (show w=Value.ref b from ry);obtain⟨it2,t2⟩:=tupR h2;simpa only[eqD] using SeqAt.EqAt.int_tuple c t t2 hu0
   |lst es=>obtain⟨t,rfl⟩:=rx;obtain⟨b,ws,rfl,h2,r2⟩:=ge.lst;cases (show w=Value.ref b from ry);obtain⟨it2,t2⟩:=lstR h2;simpa only[eqD] using SeqAt.EqAt.int_list c t t2 hu0
   |non=>rw[ge.non] at ry;simpa only[eqD,eqV] using aR (y:=.int c) (x:=.non) rx ry rfl rfl
   |bl b=>rw[ge.bl] at ry;simpa only[eqD,eqV] using aR (y:=.int c) (x:=.bl b) rx ry rfl rfl
   |int b=>rw[ge.int] at ry;simpa only[eqD,eqV] using aR (y:=.int c) (x:=.int b) rx ry rfl rfl
   |str b=>rw[ge.str] at ry;simpa only[eqD,eqV] using aR (y:=.int c) (x:=.str _) rx ry rfl rfl
  |str c=>
   rw[gd.str] at rx
   cases e with
   |dic _ _=>simp[pln] at pe
   |exn _=>simp[pln] at pe
   |scr _=>simp[pln] at pe
   |tup es=>obtain⟨t,rfl⟩:=rx;obtain⟨b,ws,rfl,h2,r2⟩:=ge.tup;cases (show w=Value.ref b from ry);obtain⟨it2,t2⟩:=tupR h2;simpa only[eqD] using SeqAt.EqAt.str_tuple _ t t2 hu0
   |lst es=>obtain⟨t,rfl⟩:=rx;obtain⟨b,ws,rfl,h2,r2⟩:=ge.lst;cases (show w=Value.ref b from ry);obtain⟨it2,t2⟩:=lstR h2;simpa only[eqD] using SeqAt.EqAt.str_list _ t t2 hu0
   |non=>rw[ge.non] at ry;simpa only[eqD,eqV] using aR (y:=.str _) (x:=.non) rx ry rfl rfl
   |bl b=>rw[ge.bl] at ry;simpa only[eqD,eqV] using aR (y:=.str _) (x:=.bl b) rx ry rfl rfl
   |int b=>rw[ge.int] at ry;simpa only[eqD,eqV] using aR (y:=.str _) (x:=.int b) rx ry rfl rfl
   |str b=>
    rw[ge.str] at ry;have:=aR (A:=A) (s:=s) (y:=.str _) (x:=.str _) rx ry rfl rfl;have e:eqV (.str ⟨c.toArray⟩) (.str ⟨b.toArray⟩)=(c==b):=gA c b;rw[e] at this;simpa only[eqD] using this
noncomputable def rEqD(K:PySem.W.Frag)(cl:Nat->Addr)(neg:Bool):R2:=λx y H Q=>∃F p q,Got K cl F H p x/\Got K cl F H q y/\pln 9 p=true/\pln 9 q=true/\kin p q=true/\Q (.bl (if neg then !eqD p q else eqD p q)) H
theorem op_eqD(hu:X.A.units+20<cLine):OpR X (compareOp .Eq) (rEqD X.K cl false):=by
 intro pins s σ H x y v u Q I rx ry h;obtain⟨F,p,q,g1,g2,p1,p2,k,hq⟩:=h;rw[yK yL] at hq;have ih:=vH (cl:=cl) (F:=F) I 8 X.A.in1 (by show X.A.units+1+8<cLine;omega);cases p<;>cases q<;>first|(simp[kin] at k;done)|skip
 ·rename_i a b
  have e1:=g1.bl;have e2:=g2.bl;subst e1 e2;exact uU pins s σ H _ _ v u Q I rx ry ⟨rfl,by rw[kR];exact hq⟩
 ·rename_i a b
  have e1:=g1.int;have e2:=g2.int;subst e1 e2;exact uU pins s σ H _ _ v u Q I rx ry ⟨rfl,by rw[f7];exact hq⟩
 ·rename_i a b
  have e1:=g1.str;have e2:=g2.str;subst e1 e2;exact uU pins s σ H _ _ v u Q I rx ry ⟨rfl,by rw[f8,gA];exact hq⟩
 ·rename_i ds es
  obtain⟨a,vs,rfl,h1,r1⟩:=g1.tup;obtain⟨b,ws,rfl,h2,r2⟩:=g2.tup;cases (show v=Value.ref a from rx);cases (show u=Value.ref b from ry);simp only[pln,yU] at p1 p2;obtain⟨i1,i2,ee,a1,a2,a3,a4⟩:=o5 I (A:=X.A) (by omega) ih p1.2 p2.2 h1 h2 r1 r2;refine SeqAt.RcAt.tuples a1 a2 (by omega) a3 X.prog X.w X.xe _ ?_;rw[a4];exact⟨.bl _,H,I,rfl,hq⟩
 ·rename_i ds es
  obtain⟨a,vs,rfl,h1,r1⟩:=g1.lst;obtain⟨b,ws,rfl,h2,r2⟩:=g2.lst;cases (show v=Value.ref a from rx);cases (show u=Value.ref b from ry);simp only[pln,yU] at p1 p2;exact(o6 I (A:=X.A) (by omega) ih p1.2 p2.2 h1 h2 r1 r2).1 X.prog X.w X.xe _ ⟨.bl _,H,I,rfl,hq⟩
theorem op_neD(hu:X.A.units+20<cLine):OpR X (compareOp .NotEq) (rEqD X.K cl true):=by
 intro pins s σ H x y v u Q I rx ry h;obtain⟨F,p,q,g1,g2,p1,p2,k,hq⟩:=h;rw[yM rfl] at hq;have ih:=vH (cl:=cl) (F:=F) I 8 X.A.in1 (by show X.A.units+1+8<cLine;omega);cases p<;>cases q<;>first|(simp[kin] at k;done)|skip
 ·rename_i a b
  have e1:=g1.bl;have e2:=g2.bl;subst e1 e2;exact uV pins s σ H _ _ v u Q I rx ry ⟨rfl,by rw[kR];exact hq⟩
 ·rename_i a b
  have e1:=g1.int;have e2:=g2.int;subst e1 e2;exact uV pins s σ H _ _ v u Q I rx ry ⟨rfl,by rw[f7];exact hq⟩
 ·rename_i a b
  have e1:=g1.str;have e2:=g2.str;subst e1 e2;exact uV pins s σ H _ _ v u Q I rx ry ⟨rfl,by rw[f8,gA];exact hq⟩
 ·rename_i ds es
  obtain⟨a,vs,rfl,h1,r1⟩:=g1.tup;obtain⟨b,ws,rfl,h2,r2⟩:=g2.tup;cases (show v=Value.ref a from rx);cases (show u=Value.ref b from ry);simp only[pln,yU] at p1 p2;obtain⟨i1,i2,ee,a1,a2,a3,a4⟩:=o5 I (A:=X.A) (by omega) ih p1.2 p2.2 h1 h2 r1 r2;refine SeqAt.RcNeAt.tuples a1 a2 (by omega) a3 X.prog X.w X.xe _ ?_;rw[a4];exact⟨.bl _,H,I,rfl,hq⟩
 ·rename_i ds es
  obtain⟨a,vs,rfl,h1,r1⟩:=g1.lst;obtain⟨b,ws,rfl,h2,r2⟩:=g2.lst;cases (show v=Value.ref a from rx);cases (show u=Value.ref b from ry);simp only[pln,yU] at p1 p2;exact(o6 I (A:=X.A) (by omega) ih p1.2 p2.2 h1 h2 r1 r2).2 X.prog X.w X.xe _ ⟨.bl _,H,I,rfl,hq⟩
end
theorem gY(h:n<=LIM):n<=sizeLine:=zB h (by decide)
section
variable{X:Cx}{cl:Nat->Addr}{XE:Nat->St->Hp->Prop}{YE:Nat->Hp->Prop}{Φ:Nat->List D->R D}{G:List D}{m fr:Bool}{F:Addr->Prop}{H:Hp}{Q:VK}{x y:V}{p q:D}
theorem Post.no(h:Post X.K cl YE m fr F H Q .bad):False:=h
theorem Post.int(h:Post X.K cl YE m fr F H Q (.ok (.int i))):Q (.int i) H:=Post.hereR h (by simp[Rep]) (by simp[isOwn])
theorem Post.bl(h:Post X.K cl YE m fr F H Q (.ok (.bl i))):Q (.bl i) H:=Post.hereR h (by simp[Rep]) (by simp[isOwn])
theorem Post.newl{p:Addr}(h:Post X.K cl YE m true F H Q (.ok (.lst ds)))(r:Reps X.K cl F H ds vs)(hF:¬F p)(hp:H p=none):Q (.ref p) (L2.upd H p (.lst vs)):=by
 refine h F (.ref p) _ (Up.alloc hp) (Res.gives ?_);unfold Res;rw[yM (by simp[isOwn])];exact⟨p,rfl,hp,hF,vs,upd_same,r.up (Up.alloc hp)⟩
theorem Post.newt{p:Addr}(h:Post X.K cl YE m fr F H Q (.ok (.tup ds)))(r:Reps X.K cl F H ds vs)(hp:H p=none):Q (.ref p) (L2.upd H p (.tup vs)):=by
 refine h F (.ref p) _ (Up.alloc hp) (Res.gives (.of_rep ?_ (by simp[isOwn])));simp only[Rep];exact⟨p,vs,rfl,.inl (.inl upd_same),r.up (Up.alloc hp)⟩
theorem ho_add(t:Trk F H)(g1:Got X.K cl F H p x)(g2:Got X.K cl F H q y)(h:Post X.K cl YE m true F H Q (op2 .add p q)):rI0 (λi j=>.int (i+j)) x y H Q\/rCat x y H Q\/rCatTW X.K x y H Q:=by
 cases p<;>cases q<;>first|exact(show False from h).elim|skip
 ·rw[g1.int,g2.int]
  exact .inl ⟨_,_,rfl,rfl,Post.int h⟩
 ·rename_i ds es
  have h':Post X.K cl YE m true F H Q (if ds.length+es.length<=LIM then .ok (.tup (ds++es)) else .bad):=h;by_cases hc:ds.length+es.length<=LIM
  ·rw[yM hc] at h'
   obtain⟨a,vs,rfl,h1,r1⟩:=g1.tup;obtain⟨b,ws,rfl,h2,r2⟩:=g2.tup;refine .inr (.inr ⟨a,b,vs,ws,rfl,rfl,h1,h2,by rw[r1.length,r2.length];exact gY hc,λe=>?_,λ_ e=>?_,λ_ _ l hl=>Post.newt h' (r1.append r2) hl⟩)
   ·subst e
    have e:ds=[]:=by have:=r1.length;cases ds with|nil=>rfl|cons _ _=>simp at this
    subst e;exact Post.hereR h' (by rw[List.nil_append];simp only[Rep];exact⟨b,ws,rfl,h2,r2⟩) (by simp[isOwn])
   ·subst e
    have e:es=[]:=by have:=r2.length;cases es with|nil=>rfl|cons _ _=>simp at this
    subst e;exact Post.hereR h' (by rw[aAQ];simp only[Rep];exact⟨a,vs,rfl,h1,r1⟩) (by simp[isOwn])
  ·rw[yK hc] at h';exact h'.no.elim
 ·rename_i ds es
  have h':Post X.K cl YE m true F H Q (if ds.length+es.length<=LIM then .ok (.lst (ds++es)) else .bad):=h;by_cases hc:ds.length+es.length<=LIM
  ·rw[yM hc] at h'
   obtain⟨a,vs,rfl,h1,r1⟩:=g1.lst;obtain⟨b,ws,rfl,h2,r2⟩:=g2.lst;exact .inr (.inl ⟨a,b,vs,ws,rfl,rfl,h1,h2,by rw[r1.length,r2.length];exact gY hc,λl hl=>Post.newl h' (r1.append r2) (t.fresh hl) hl⟩)
  ·rw[yK hc] at h';exact h'.no.elim
theorem kY[∀i j,Decidable (C i j)]{f:Int->Int->D}(ho:∀p q,(∃i j,p=.int i/\q=.int j/\op2 o p q=if C i j then .ok (f i j) else .bad)\/op2 o p q=.bad)
  (hk:∀i j,Rep X.K cl F H (f i j) (k i j)) (hn:∀i j,isOwn (f i j)=false) (g1:Got X.K cl F H p x) (g2:Got X.K cl F H q y) (h:Post X.K cl YE m fr F H Q (op2 o p q)):rI C k x y H Q:=by
 rcases ho p q with⟨i,j,rfl,rfl,e⟩|e
 ·rw[e] at h
  by_cases hc:C i j
  ·rw[yM hc] at h
   exact⟨i,j,g1.int,g2.int,hc,Post.hereR h (hk i j) (by rw[hn];simp)⟩
  ·rw[yK hc] at h;exact h.no.elim
 ·rw[e] at h;exact h.no.elim
theorem dQ{f:Int->Int->D}(ho:∀p q,(∃i j,p=.int i/\q=.int j/\op2 o p q=.ok (f i j))\/op2 o p q=.bad)
  (hk:∀i j,Rep X.K cl F H (f i j) (k i j)) (hn:∀i j,isOwn (f i j)=false) (g1:Got X.K cl F H p x) (g2:Got X.K cl F H q y) (h:Post X.K cl YE m fr F H Q (op2 o p q)):rI0 k x y H Q:=by
 rcases ho p q with⟨i,j,rfl,rfl,e⟩|e
 ·rw[e] at h
  exact⟨i,j,g1.int,g2.int,Post.hereR h (hk i j) (by rw[hn];simp)⟩
 ·rw[e] at h;exact h.no.elim
theorem sp_sub(p q:D):(∃i j,p=.int i/\q=.int j/\op2 .sub p q=.ok (.int (i-j)))\/op2 .sub p q=.bad:=by
 cases p<;>cases q<;>first|exact .inr rfl|exact .inl ⟨_,_,rfl,rfl,rfl⟩
theorem sp_mul(p q:D):(∃i j,p=.int i/\q=.int j/\op2 .mul p q=if(-(2^64)<i/\i<2^64)\/(-(2^64)<j/\j<2^64) then R.ok (.int (i*j)) else R.bad)\/op2 .mul p q=.bad:=by
 cases p<;>cases q<;>first|exact .inr rfl|exact .inl ⟨_,_,rfl,rfl,rfl⟩
theorem sp_mod(p q:D):(∃i j,p=.int i/\q=.int j/\op2 .mod p q=if 0<j then R.ok (.int (i%j)) else R.bad)\/op2 .mod p q=.bad:=by
 cases p<;>cases q<;>first|exact .inr rfl|exact .inl ⟨_,_,rfl,rfl,rfl⟩
theorem sp_fdiv(p q:D):(∃i j,p=.int i/\q=.int j/\op2 .fdiv p q=if 0<j/\j<1073741824 then R.ok (.int (i/j)) else R.bad)\/op2 .fdiv p q=.bad:=by
 cases p<;>cases q<;>first|exact .inr rfl|exact .inl ⟨_,_,rfl,rfl,rfl⟩
theorem sp_lt(p q:D):(∃i j,p=.int i/\q=.int j/\op2 .lt p q=.ok (.bl (decide (i<j))))\/op2 .lt p q=.bad:=by
 cases p<;>cases q<;>first|exact .inr rfl|exact .inl ⟨_,_,rfl,rfl,rfl⟩
theorem sp_gt(p q:D):(∃i j,p=.int i/\q=.int j/\op2 .gt p q=.ok (.bl (decide (j<i))))\/op2 .gt p q=.bad:=by
 cases p<;>cases q<;>first|exact .inr rfl|exact .inl ⟨_,_,rfl,rfl,rfl⟩
theorem sp_ge(p q:D):(∃i j,p=.int i/\q=.int j/\op2 .ge p q=.ok (.bl (decide (j<=i))))\/op2 .ge p q=.bad:=by
 cases p<;>cases q<;>first|exact .inr rfl|exact .inl ⟨_,_,rfl,rfl,rfl⟩
theorem ho_eq(g1:Got X.K cl F H p x)(g2:Got X.K cl F H q y)(h:Post X.K cl YE m fr F H Q (op2 .eq p q)):rEqD X.K cl false x y H Q:=by
 have h':Post X.K cl YE m fr F H Q (if(pln 9 p&&pln 9 q&&kin p q)=true then .ok (.bl (eqD p q)) else .bad):=h;by_cases hc:(pln 9 p&&pln 9 q&&kin p q)=true
 ·rw[yM hc] at h'
  simp only[yU] at hc;exact⟨F,p,q,g1,g2,hc.1.1,hc.1.2,hc.2,by rw[yK yL];exact Post.bl h'⟩
 ·rw[yK hc] at h';exact h'.no.elim
theorem ho_ne(g1:Got X.K cl F H p x)(g2:Got X.K cl F H q y)(h:Post X.K cl YE m fr F H Q (op2 .ne p q)):rEqD X.K cl true x y H Q:=by
 have h':Post X.K cl YE m fr F H Q (if(pln 9 p&&pln 9 q&&kin p q)=true then .ok (.bl (!eqD p q)) else .bad):=h;by_cases hc:(pln 9 p&&pln 9 q&&kin p q)=true
 ·rw[yM hc] at h'
  simp only[yU] at hc;exact⟨F,p,q,g1,g2,hc.1.1,hc.1.2,hc.2,by rw[yM rfl];exact Post.bl h'⟩
 ·rw[yK hc] at h';exact h'.no.elim
theorem gB(g:Got X.K cl F H d v)(h:flat d=true):flatV v=true:=by
 cases d with
 |non=>rw[g.non];rfl
 |bl b=>rw[g.bl];rfl
 |int b=>rw[g.int];rfl
 |str b=>rw[g.str];rfl
 |_=>simp[flat] at h
theorem o7(g:Got X.K cl F H d v)(g':Got X.K cl F H e w)(h:flat d=true)(h':flat e=true):eqV v w=eqD d e:=by
 cases d with
 |non=>rw[g.non];cases e with
  |non=>rw[g'.non];simp only[eqV,eqD]
  |bl b=>rw[g'.bl];simp only[eqV,eqD]
  |int b=>rw[g'.int];simp only[eqV,eqD]
  |str b=>rw[g'.str];simp only[eqV,eqD]
  |_=>simp[flat] at h'
 |bl c=>rw[g.bl];cases e with
  |non=>rw[g'.non];simp only[eqV,eqD]
  |bl b=>rw[g'.bl];simp only[eqV,eqD]
  |int b=>rw[g'.int];simp only[eqV,eqD]
  |str b=>rw[g'.str];simp only[eqV,eqD]
  |_=>simp[flat] at h'
 |int c=>rw[g.int];cases e with
  |non=>rw[g'.non];simp only[eqV,eqD]
  |bl b=>rw[g'.bl];simp only[eqV,eqD]
  |int b=>rw[g'.int];simp only[eqV,eqD]
  |str b=>rw[g'.str];simp only[eqV,eqD]
  |_=>simp[flat] at h'
 |str c=>rw[g.str];cases e with
  |non=>rw[g'.non];simp only[eqV,eqD]
  |bl b=>rw[g'.bl];simp only[eqV,eqD]
  |int b=>rw[g'.int];simp only[eqV,eqD]
  |str b=>rw[g'.str];simp only[eqV,eqD];exact gA c b
  |_=>simp[flat] at h'
 |_=>simp[flat] at h
theorem dR:∀{ds:List D}{vs:List V},Reps X.K cl F H ds vs->ds.all flat=true->vs.all flatV=true
 |[],vs,r,_=>by rw[r.nil_inv];rfl
 |d::ds,vs,r,h=>by
  obtain⟨v,r',rfl,a1,a2⟩:=r.cons_inv;rw[List.all_cons,yU] at h⊢;exact⟨gB (.inl a1) h.1,dR a2 h.2⟩
theorem o8(g:Got X.K cl F H p x)(h:flat p=true):∀{ds:List D}{vs:List V},Reps X.K cl F H ds vs->ds.all flat=true->inV x vs=inD p ds
 |[],vs,r,_=>by rw[r.nil_inv];rfl
 |d::ds,vs,r,hf=>by
  obtain⟨v,r',rfl,a1,a2⟩:=r.cons_inv;rw[List.all_cons,yU] at hf;have ih:=o8 g h a2 hf.2;unfold inV inD at ih⊢;rw[List.any_cons,List.any_cons,ih,o7 (.inl a1) g hf.1 h]
theorem ho_in(neg:Bool)(g1:Got X.K cl F H p x)(g2:Got X.K cl F H q y)(h:Post X.K cl YE m fr F H Q ((isin p q).bind λb=>.ok (.bl (if neg then !b else b)))):rIn X.K neg x y H Q:=by
 cases q with
 |lst es=>
  have h':Post X.K cl YE m fr F H Q ((if(flat p&&es.all flat)=true then R.ok (inD p es) else R.bad).bind λb=>.ok (.bl (if neg then !b else b))):=h;by_cases hc:(flat p&&es.all flat)=true
  ·rw[yM hc] at h'
   simp only[yU] at hc;obtain⟨a,vs,rfl,h1,r1⟩:=g2.lst;exact⟨a,vs,rfl,.inl (SqL.of h1),gB g1 hc.1,dR r1 hc.2,by rw[o8 g1 hc.1 r1 hc.2];exact Post.bl h'⟩
  ·rw[yK hc] at h';exact(show False from h').elim
 |tup es=>
  have h':Post X.K cl YE m fr F H Q ((if(flat p&&es.all flat)=true then R.ok (inD p es) else R.bad).bind λb=>.ok (.bl (if neg then !b else b))):=h;by_cases hc:(flat p&&es.all flat)=true
  ·rw[yM hc] at h'
   simp only[yU] at hc;obtain⟨a,vs,rfl,h1,r1⟩:=g2.tup;exact⟨a,vs,rfl,.inr h1,gB g1 hc.1,dR r1 hc.2,by rw[o8 g1 hc.1 r1 hc.2];exact Post.bl h'⟩
  ·rw[yK hc] at h';exact(show False from h').elim
 |_=>exact(show False from h).elim
theorem vI(r:Reps X.K cl F H ds vs)(h:atD ds i=some d):∃v,atI vs i=some v/\Rep X.K cl F H d v:=by
 unfold atD at h
 cases e:ixD ds.length i with
 |none=>rw[e] at h;cases h
 |some j=>
  rw[e] at h;obtain⟨v,h1,h2⟩:=r.get (i:=j) (d:=d) h;refine⟨v,?_,h2⟩;show(ixN vs.length i).bind (λj=>vs[j]?)=some v;rw[r.length];have e':ixN ds.length i=some j:=e;rw[e'];exact h1
theorem ho_at(g1:Got X.K cl F H p x)(g2:Got X.K cl F H q y)(h:Post X.K cl YE m false F H Q (op2 .at p q)):rIxL X.K x y H Q\/rIxT X.K x y H Q:=by
 cases p<;>cases q<;>first|exact(show False from h).elim|skip
 ·rename_i ds i
  have h':Post X.K cl YE m false F H Q (ofO (atD ds i)):=h
  cases e:atD ds i with
  |none=>rw[e] at h';exact(show False from h').elim
  |some d=>
   rw[e] at h';obtain⟨a,vs,rfl,h1,r1⟩:=g1.tup;obtain⟨v,e1,e2⟩:=vI r1 e;exact .inr ⟨a,vs,i,v,rfl,g2.int,h1,e1,Post.hereR h' e2 (by simp)⟩
 ·rename_i ds i
  have h':Post X.K cl YE m false F H Q (ofO (atD ds i)):=h
  cases e:atD ds i with
  |none=>rw[e] at h';exact(show False from h').elim
  |some d=>
   rw[e] at h';obtain⟨a,vs,rfl,h1,r1⟩:=g1.lst;obtain⟨v,e1,e2⟩:=vI r1 e;exact .inl ⟨a,vs,i,v,rfl,g2.int,SqL.of h1,e1,Post.hereR h' e2 (by simp)⟩
 ·rename_i ns i
  have h':Post X.K cl YE m false F H Q (ofO ((atD ns i).map .int)):=h
  cases e:atD ns i with
  |none=>rw[e] at h';exact(show False from h').elim
  |some d=>
   rw[e] at h';obtain⟨a,rfl,h1⟩:=g1.scr;refine .inl ⟨a,_,i,.int d,rfl,g2.int,h1.sqL,?_,Post.int h'⟩;unfold atD at e;show(ixN (ns.map V.int).length i).bind (λj=>(ns.map V.int)[j]?)=_;rw[yI]
   cases e2:ixD ns.length i with
   |none=>rw[e2] at e;cases e
   |some j=>
    rw[e2] at e;have e3:ixN ns.length i=some j:=e2;rw[e3];show(ns.map V.int)[j]?=_;rw[zE];have e4:ns[j]?=some d:=e;rw[e4];rfl
end
noncomputable def lift1(o:D->R D):List D->R D
 |[x]=>o x
 |_=>.bad
theorem Paired.one{α β:Type}{P:α->β->Prop}{a:α}{l:List β}(h:Paired P [a] l):∃b,l=[b]/\P a b:=by
 cases h with|cons h r=>cases r;exact⟨_,rfl,h⟩
section
variable{X:Cx}{cl:Nat->Addr}{XE:Nat->St->Hp->Prop}{YE:Nat->Hp->Prop}{Φ:Nat->List D->R D}{G:List D}{m fr:Bool}
theorem dS{id:String}(hev:∀δ,ev Φ G m ex δ=(evs Φ G true exs δ).bind o)
  (hc:CallR X (.builtin id) r) (hg:Gl X x) (hm:X.mg x=none) (hv:bootBuiltins x=some (.builtin id)) (hn:x≠"__name__") (hdb:(x==("__debug__":Str))=false)
  (he:starEach (e::es) X.env=(false,eval e X.env)::starEach es X.env) (hpl:(backTo pos (starEach es X.env)).any (·.1)=false) (ia:OkA X cl XE Φ G true exs (e::es))
  (ho:∀(YE:Nat->Hp->Prop) F H vs ds Q,Trk F H->Paired (Got X.K cl F H) ds vs->Post X.K cl YE m (frsh ex) F H Q (o ds)->r vs H Q):OkE X cl XE Φ G m ex (.Call (.Name x p) (e::es) [] pos):=by
 obtain⟨ta,pa,ia⟩:=ia;refine⟨_,dF hc hg hm hv pa hn hdb he hpl,λF σ δ H Q S h=>?_⟩;rw[hev] at h;refine ia F σ δ H _ S (Meet.mono (Meet.bind h) (λds _ hd F1 vs H1 u1 g1=>?_) λc z=>z);rw[yM rfl] at g1;exact ho _ F1 H1 vs ds Q (S.up u1).trk g1 (Post.up hd u1)
theorem jQ{id:String}(hev:∀δ,ev Φ G m ex δ=(evs Φ G true exs δ).bind o)
  (hc:CallR X (.type id) r) (hg:Gl X x) (hm:X.mg x=none) (hv:bootBuiltins x=some (.type id)) (hn:x≠"__name__") (hdb:(x==("__debug__":Str))=false)
  (he:starEach (e::es) X.env=(false,eval e X.env)::starEach es X.env) (hpl:(backTo pos (starEach es X.env)).any (·.1)=false) (ia:OkA X cl XE Φ G true exs (e::es))
  (ho:∀(YE:Nat->Hp->Prop) F H vs ds Q,Trk F H->Paired (Got X.K cl F H) ds vs->Post X.K cl YE m (frsh ex) F H Q (o ds)->r vs H Q):OkE X cl XE Φ G m ex (.Call (.Name x p) (e::es) [] pos):=by
 obtain⟨ta,pa,ia⟩:=ia;refine⟨_,eI hc hg hm hv pa hn hdb he hpl,λF σ δ H Q S h=>?_⟩;rw[hev] at h;refine ia F σ δ H _ S (Meet.mono (Meet.bind h) (λds _ hd F1 vs H1 u1 g1=>?_) λc z=>z);rw[yM rfl] at g1;exact ho _ F1 H1 vs ds Q (S.up u1).trk g1 (Post.up hd u1)
theorem ev1(δ:Sto):ev Φ G m (.op1 o a) δ=(evs Φ G true [a] δ).bind (lift1 (op1 o)):=by
 simp only[ev,evs];cases ev Φ G true a δ<;>rfl
variable{F:Addr->Prop}{H:Hp}{Q:VK}{x y:V}{p q:D}
theorem ho_len(g:Paired (Got X.K cl F H) ds vs)(h:Post X.K cl YE m fr F H Q (lift1 (op1 .len) ds)):
  ∃p ys,vs=[.ref p]/\(SqL X.K H p ys\/SqT X.K H p ys)/\Q (.int ys.length) H:=by
 match ds,g,h with
 |[],_,h=>exact(show False from h).elim
 |_::_::_,_,h=>exact(show False from h).elim
 |[d],g,h=>
  obtain⟨v,rfl,gv⟩:=Paired.one g;have h:Post X.K cl YE m fr F H Q (op1 .len d):=h;cases d<;>first|exact(show False from h).elim|skip
  ·rename_i ds
   obtain⟨a,ws,rfl,h1,r1⟩:=gv.tup;exact⟨a,ws,rfl,.inr h1,by rw[r1.length];exact Post.int h⟩
  ·rename_i ds
   obtain⟨a,ws,rfl,h1,r1⟩:=gv.lst;exact⟨a,ws,rfl,.inl (SqL.of h1),by rw[r1.length];exact Post.int h⟩
  ·rename_i ns
   obtain⟨a,rfl,h1⟩:=gv.scr;exact⟨a,_,rfl,.inl h1.sqL,by rw[yI];exact Post.int h⟩
theorem ho_list(t:Trk F H)(g:Paired (Got X.K cl F H) ds vs)(h:Post X.K cl YE m true F H Q (lift1 (op1 .list) ds)):
  ∃p ys,vs=[.ref p]/\(SqL X.K H p ys\/SqT X.K H p ys)/\∀l,H l=none->Q (.ref l) (L2.upd H l (.lst ys)):=by
 match ds,g,h with
 |[],_,h=>exact(show False from h).elim
 |_::_::_,_,h=>exact(show False from h).elim
 |[d],g,h=>
  obtain⟨v,rfl,gv⟩:=Paired.one g;have h:Post X.K cl YE m true F H Q (op1 .list d):=h;cases d<;>first|exact(show False from h).elim|skip
  ·rename_i ds
   obtain⟨a,ws,rfl,h1,r1⟩:=gv.tup;exact⟨a,ws,rfl,.inr h1,λl hl=>Post.newl h r1 (t.fresh hl) hl⟩
  ·rename_i ds
   obtain⟨a,ws,rfl,h1,r1⟩:=gv.lst;exact⟨a,ws,rfl,.inl (SqL.of h1),λl hl=>Post.newl h r1 (t.fresh hl) hl⟩
theorem vJ(g:Paired (Got X.K cl F H) ds vs)(h:Post X.K cl YE m false F H Q (lift1 (op1 .tuple) ds)):
  ∃p ys,vs=[.ref p]/\((SqL X.K H p ys/\∀l,H l=none->Q (.ref l) (L2.upd H l (.tup ys)))\/(SqT X.K H p ys/\Q (.ref p) H)):=by
 match ds,g,h with
 |[],_,h=>exact(show False from h).elim
 |_::_::_,_,h=>exact(show False from h).elim
 |[d],g,h=>
  obtain⟨v,rfl,gv⟩:=Paired.one g;have h:Post X.K cl YE m false F H Q (op1 .tuple d):=h;cases d<;>first|exact(show False from h).elim|skip
  ·rename_i ds
   obtain⟨a,ws,rfl,h1,r1⟩:=gv.tup;exact⟨a,ws,rfl,.inr ⟨h1,Post.hereR h (by simp only[Rep];exact⟨a,ws,rfl,h1,r1⟩) (by simp)⟩⟩
  ·rename_i ds
   obtain⟨a,ws,rfl,h1,r1⟩:=gv.lst;exact⟨a,ws,rfl,.inl ⟨SqL.of h1,λl hl=>Post.newt h r1 hl⟩⟩
theorem ho_neg(g:Got X.K cl F H p x)(h:Post X.K cl YE m fr F H Q (op1 .neg p)):rU (λi=>.int (-i)) x H Q:=by
 cases p<;>first|exact(show False from h).elim|skip;exact⟨_,g.int,Post.int h⟩
theorem Post.asB(g:Got X.K cl F H p x)(h:Post X.K cl YE m fr F H Q ((asB p).bind f)):∃c,x=.bl c/\Post X.K cl YE m fr F H Q (f c):=by
 cases p with
 |bl c=>exact⟨c,g.bl,h⟩
 |_=>exact(show False from h).elim
theorem ok_not(ia:OkE X cl XE Φ G true ea a):OkE X cl XE Φ G m (.not ea) (.UnaryOp .Not a pos):=by
 obtain⟨ta,pa,ia⟩:=ia;refine⟨_,pe_not pa,λF σ δ H Q S h=>?_⟩;simp only[ev] at h;refine ia F σ δ H _ S (Meet.mono (Meet.bind h) (λp _ hp F1 x H1 u1 g1=>?_) λc z=>z);obtain⟨c,e,hc⟩:=Post.asB g1.got (Post.up hp u1);exact⟨c,e,Post.bl hc⟩
theorem ok_one(ia:OkE X cl XE Φ G m ex a):OkE X cl XE Φ G m ex (.BoolOp op [a] pos):=by
 obtain⟨ta,pa,ia⟩:=ia;exact⟨_,pe_one pa,ia⟩
theorem Post.weak(h:Post X.K cl YE m false F H Q r):Post X.K cl YE m fr F H Q r:=by
 refine Meet.mono h (λd _ q F' v H' u g=>?_) λc z=>z;unfold Gives at g;by_cases hm:m=true
 ·rw[yM hm] at g
  exact q F' v H' u (by unfold Gives;rw[yM hm];exact g)
 ·rw[yK hm] at g
  obtain⟨F2,u2,_,rp⟩:=g.keep u;exact q F2 v H' u2 (by unfold Gives;rw[yK hm];exact .of_rep rp (by simp))
theorem Post.modes(h:Post X.K cl YE m fr F H Q r):Post X.K cl YE false fr F H Q r:=
 Meet.mono h (λd _ q F' v H' u g=>q F' v H' u (Res.gives (by unfold Gives at g;rw[yK yL] at g;exact g))) λc z=>z
theorem ok_and(ia:OkE X cl XE Φ G true ea a)(ib:OkE X cl XE Φ G false eb (.BoolOp .And (b::rest) pos)):OkE X cl XE Φ G m (.and ea eb) (.BoolOp .And (a::b::rest) pos):=by
 obtain⟨ta,pa,ia⟩:=ia;obtain⟨tb,pb,ib⟩:=ib;refine⟨_,pe_and pa pb,λF σ δ H Q S h=>?_⟩;simp only[ev] at h;refine ia F σ δ H _ S (Meet.mono (Meet.bind h) (λp _ hp F1 x H1 u1 g1=>?_) λc z=>z);obtain⟨c,e,hc⟩:=Post.asB g1.got (Post.up hp u1);refine⟨c,e,?_⟩
 cases c with
 |true=>
  rw[yM rfl];exact ib F1 σ δ H1 Q (S.up u1) (Post.modes hc).weak
 |false=>
  rw[yK yL];exact Post.bl hc
theorem ok_ite(ic:OkT X cl XE Φ G ec c)(ia:OkE X cl XE Φ G false ea a)(ib:OkE X cl XE Φ G false eb b):OkE X cl XE Φ G m (.ite ec ea eb) (.IfExp c a b pos):=by
 obtain⟨tc,pc,ic⟩:=ic;obtain⟨ta,pa,ia⟩:=ia;obtain⟨tb,pb,ib⟩:=ib;refine⟨_,uO pc pa pb,λF σ δ H Q S h=>?_⟩;simp only[ev] at h;refine ic F σ δ H _ S (Meet.mono (Meet.bind h) (λt _ hp F1 H1 u1=>?_) λc z=>z);have hp:=Post.up (K:=X.K) (cl:=cl) hp u1
 cases t with
 |true=>
  show ta σ H1 Q;exact ia F1 σ δ H1 Q (S.up u1) (Post.modes hp).weak
 |false=>
  show tb σ H1 Q;exact ib F1 σ δ H1 Q (S.up u1) (Post.modes hp).weak
theorem ok_tup(hl:exs.length<=LIM)(ia:OkA X cl XE Φ G false exs es):OkE X cl XE Φ G m (.tup exs) (.Tuple es k pos):=by
 obtain⟨ta,pa,ia⟩:=ia;refine⟨_,kS pa,λF σ δ H Q S h=>?_⟩;simp only[ev] at h;refine ia F σ δ H _ S (Meet.mono (Meet.bind h) (λds hds hp F1 vs H1 u1 g1=>?_) λc z=>z);rw[yK yL] at g1;have hlen:ds.length=exs.length:=by
  have:∀(es:List Ex)(ds:List D),evs Φ G false es δ=.ok ds->ds.length=es.length:=by
   intro es
   induction es with
   |nil=>intro ds h;simp only[evs] at h;cases h;rfl
   |cons e es ih=>
    intro ds h;simp only[evs] at h
    cases q:ev Φ G false e δ with
    |ok x=>
     rw[q] at h
     cases q2:evs Φ G false es δ with
     |ok xs=>rw[q2] at h;cases h;rw[yJ,yJ,ih xs q2]
     |exc c=>rw[q2] at h;cases h
     |bad=>rw[q2] at h;cases h
    |exc c=>rw[q] at h;cases h
    |bad=>rw[q] at h;cases h
  exact this exs ds hds
 exact⟨by rw[g1.length,hlen];exact gY hl,λl hl'=>Post.newt (Post.up hp u1) g1 hl'⟩
theorem ok_lst(hl:exs.length<=LIM)(ia:OkA X cl XE Φ G false exs es):OkE X cl XE Φ G m (.lst exs) (.List es pos):=by
 obtain⟨ta,pa,ia⟩:=ia;refine⟨_,pe_lst pa,λF σ δ H Q S h=>?_⟩;simp only[ev] at h;refine ia F σ δ H _ S (Meet.mono (Meet.bind h) (λds hds hp F1 vs H1 u1 g1=>?_) λc z=>z);rw[yK yL] at g1;have hlen:ds.length=exs.length:=by
  have:∀(es:List Ex)(ds:List D),evs Φ G false es δ=.ok ds->ds.length=es.length:=by
   intro es
   induction es with
   |nil=>intro ds h;simp only[evs] at h;cases h;rfl
   |cons e es ih=>
    intro ds h;simp only[evs] at h
    cases q:ev Φ G false e δ with
    |ok x=>
     rw[q] at h
     cases q2:evs Φ G false es δ with
     |ok xs=>rw[q2] at h;cases h;rw[yJ,yJ,ih xs q2]
     |exc c=>rw[q2] at h;cases h
     |bad=>rw[q2] at h;cases h
    |exc c=>rw[q] at h;cases h
    |bad=>rw[q] at h;cases h
  exact this exs ds hds
 exact⟨by rw[g1.length,hlen];exact gY hl,λl hl'=>Post.newl (Post.up hp u1) g1 ((S.up u1).trk.fresh hl') hl'⟩
end
section
variable{X:Cx}{cl:Nat->Addr}{XE:Nat->St->Hp->Prop}{YE:Nat->Hp->Prop}{Φ:Nat->List D->R D}{G:List D}{m fr:Bool}
structure OkP(X:Cx)(cl:Nat->Addr)(XE:Nat->St->Hp->Prop)(Φ:Nat->List D->R D)(G:List D)(ex:Option Ex)(e:Option Expr):Prop where
 ok:∃t,PO X e t/\∀F σ δ H Q,Sees X.K cl F H σ δ->
 Meet (evP Φ G ex δ) (λo=>∀F' H',Up F H F' H'->Q o H') (λc=>∀F' H',Up F H F' H'->XE c σ H')->t σ H Q
theorem vK:OkP X cl XE Φ G none none:=⟨_,qN,λF σ δ H Q S h=>by simp only[evP] at h;exact h F H (Up.refl F H)⟩
theorem vL(ia:OkE X cl XE Φ G true ex e):OkP X cl XE Φ G (some ex) (some e):=by
 obtain⟨ta,pa,ia⟩:=ia;refine⟨_,qO pa,λF σ δ H Q S h=>?_⟩;simp only[evP] at h;refine ia F σ δ H _ S (Meet.mono (Meet.bind h) (λp _ hp F1 x H1 u1 g1=>?_) λc z=>z)
 cases p with
 |int i=>exact⟨i,g1.got.int,hp F1 H1 u1⟩
 |_=>exact(show False from hp).elim
variable{F:Addr->Prop}{H:Hp}{Q:VK}{x y:V}{p q:D}
theorem eK(n d:Nat)(o:Option Int):HT.sIx n d o=Py.sIx n d o:=by cases o<;>rfl
theorem vM(r:Reps X.K cl F H ds vs)(l h:Option Int):Reps X.K cl F H (cut ds l h) (cutV vs l h):=by
 unfold cut cutV;rw[r.length,eK,eK];exact(r.drop _).take _
theorem cut_all{ds:List D}(e:Py.sIx ds.length 0 l=0/\Py.sIx ds.length ds.length h=ds.length):cut ds l h=ds:=by
 unfold cut;rw[e.1,e.2];simp
theorem ho_slc(t:Trk F H)(g:Got X.K cl F H p x)(hp:Post X.K cl YE m true F H Q (slc p l h)):rSlL X.K x l h H Q\/rSlT X.K x l h H Q\/rSlTW X.K x l h H Q\/rSlS x l h H Q:=by
 cases p with
 |lst ds=>
  obtain⟨a,vs,rfl,h1,r1⟩:=g.lst;exact .inl ⟨a,vs,rfl,SqL.of h1,λp' hp'=>Post.newl hp (vM r1 l h) (t.fresh hp') hp'⟩
 |tup ds=>
  obtain⟨a,vs,rfl,h1,r1⟩:=g.tup;by_cases hw:HT.sIx vs.length 0 l=0/\HT.sIx vs.length vs.length h=vs.length
  ·refine .inr (.inr (.inl ⟨a,vs,rfl,h1,hw,Post.hereR hp ?_ (by simp[isOwn])⟩))
   have hw':Py.sIx ds.length 0 l=0/\Py.sIx ds.length ds.length h=ds.length:=by
    rw[r1.length,eK,eK] at hw;exact hw
   rw[cut_all hw'];simp only[Rep];exact⟨a,vs,rfl,h1,r1⟩
  ·exact .inr (.inl ⟨a,vs,rfl,h1,hw,λp' hp'=>Post.newt hp (vM r1 l h) hp'⟩)
 |str z=>
  have hp:Post X.K cl YE m true F H Q (if z.length<=LIM then .ok (.str (cut z l h)) else .bad):=hp;by_cases hc:z.length<=LIM
  ·rw[yM hc] at hp
   refine .inr (.inr (.inr ⟨⟨z.toArray⟩,?_,gY (show z.toArray.size<=LIM by simpa using hc),?_⟩))
   ·rcases g with g|⟨a,_,o⟩
    ·simpa[Rep] using g
    ·exact o.elim
   ·rw[sU]
    have e:(⟨z.toArray⟩:Str).length=z.length:=by show z.toArray.size=_;simp
    rw[e,eK,eK];exact Post.hereR hp (by simp[Rep,cut]) (by simp[isOwn])
  ·rw[yK hc] at hp;exact(show False from hp).elim
 |_=>exact(show False from hp).elim
theorem ok_slc{lo hi:Option Ex}(ia:OkE X cl XE Φ G true ea a)(il:OkP X cl XE Φ G lo le)(ih:OkP X cl XE Φ G hi he):OkE X cl XE Φ G m (.slc ea lo hi) (.Subscript a (.Slice le he none p2) pos):=by
 obtain⟨ta,pa,ia⟩:=ia;obtain⟨tl,pl,il⟩:=il;obtain⟨th,ph,ih⟩:=ih;refine⟨_,mG (sl_list.or (sl_tup.or (sl_tupW.or sl_str))) pa pl ph,λF σ δ H Q S h=>?_⟩;simp only[ev] at h;refine ia F σ δ H _ S (Meet.mono (Meet.bind h) (λp _ hp F1 x H1 u1 g1=>?_) λc z=>z);have hp1:Post X.K cl (λc=>XE c σ) m true F1 H1 Q ((evP Φ G lo δ).bind λl=>(evP Φ G hi δ).bind λh=>slc p l h):=Post.up hp u1;refine il F1 σ δ H1 _ (S.up u1) (Meet.mono (Meet.bind hp1) (λl _ hl F2 H2 u2=>?_) λc z=>z);have hp2:Post X.K cl (λc=>XE c σ) m true F2 H2 Q ((evP Φ G hi δ).bind λh=>slc p l h):=Post.up hl u2;refine ih F2 σ δ H2 _ ((S.up u1).up u2) (Meet.mono (Meet.bind hp2) (λh' _ hh F3 H3 u3=>?_) λc z=>z);exact ho_slc (((S.up u1).up u2).up u3).trk ((g1.got.up u2).up u3) (Post.up hh u3)
theorem rep_get(r:Reps X.K cl F H ds vs){i:Nat}(h:vs[i]?=some v):∃d,ds[i]?=some d/\Rep X.K cl F H d v:=by
 have hl:=r.length;have hi:i<ds.length:=by
  by_cases hc:i<vs.length
  ·omega
  ·rw[aAL (by omega)] at h;cases h
 obtain⟨v',h1,h2⟩:=r.get (i:=i) (d:=ds[i]) (by simp[hi]);rw[h] at h1;cases h1;exact⟨ds[i],by simp[hi],h2⟩
theorem mK(e:D):∀(ds:List D)(j:Nat),idxD e ds=some j->∃z,ds[j]?=some z/\eqD z e=true/\∀(k:Nat) z',k<j->ds[k]?=some z'->eqD z' e=false
 |[],j,h=>by simp[idxD] at h
 |d::ds,j,h=>by
  unfold idxD at h;by_cases hc:eqD d e=true
  ·rw[yM hc] at h
   cases h;exact⟨d,by simp,hc,λk z' hk=>absurd hk (Nat.not_lt_zero k)⟩
  ·rw[yK hc] at h
   cases q:idxD e ds with
   |none=>rw[q] at h;cases h
   |some i=>
    rw[q] at h;cases h;obtain⟨z,h1,h2,h3⟩:=mK e ds i q;refine⟨z,by simpa using h1,h2,λk z' hk hz=>?_⟩
    cases k with
    |zero=>simp at hz;subst hz;simpa using hc
    |succ k=>exact h3 k z' (by have:k+1<i+1:=hk;omega) (by simpa using hz)
theorem vN(g1:Got X.K cl F H p x)(g2:Got X.K cl F H q y)(h:Post X.K cl YE m fr F H Q (op2 .index p q)):rIndex x [y] H Q:=by
 cases p<;>first|exact(show False from h).elim|skip;rename_i ds;have h':Post X.K cl YE m fr F H Q (if(flat q&&ds.all flat)=true then ofO ((idxD q ds).map λn=>.int n) else .bad):=h;by_cases hc:(flat q&&ds.all flat)=true
 ·rw[yM hc] at h'
  simp only[yU] at hc;obtain⟨a,vs,rfl,h1,r1⟩:=g1.lst
  cases e:idxD q ds with
  |none=>rw[e] at h';exact(show False from h').elim
  |some j=>
   rw[e] at h';obtain⟨z,e1,e2,e3⟩:=mK q ds j e;obtain⟨v,f1,f2⟩:=r1.get e1;have fl:∀(k:Nat) d,ds[k]?=some d->flat d=true:=λk d hk=>List.all_eq_true.mp hc.2 d (aAA hk);refine⟨a,vs,y,j,v,rfl,rfl,h1,gB g2 hc.1,dR r1 hc.2,f1,by rw[o7 (.inl f2) g2 (fl j z e1) hc.1];exact e2,λk z' hk hz=>?_,Post.int h'⟩;obtain⟨d,d1,d2⟩:=rep_get r1 hz;rw[o7 (.inl d2) g2 (fl k d d1) hc.1];exact e3 k d hk d1
 ·rw[yK hc] at h';exact h'.no.elim
theorem ok_meth{id:String}(slot:Slot "list" name id)(hty:typeOf (.builtin id)=pure (.type "method_descriptor"))(hm:MtR X id r)
  (ia:OkE X cl XE Φ G true ea a) (ib:OkE X cl XE Φ G true eb b) (hbase:attributeBase a name X.env (eval a X.env)=eval a X.env) (hline:(apos.endLine==cpos.line)=true)
  (hs:starEach [b] X.env=[(false,eval b X.env)])
  (hl:∀p q,(∃ds,p=.lst ds)\/op2 o p q=.bad) (hx:∀δ c,ev Φ G true eb δ≠.exc c)
  (ho:∀(YE:Nat->Hp->Prop) F H x y p q Q,Got X.K cl F H p x->Got X.K cl F H q y->Post X.K cl YE m (frsh (.op2 o ea eb)) F H Q (op2 o p q)->r x [y] H Q):OkE X cl XE Φ G m (.op2 o ea eb) (.Call (.Attribute a name apos) [b] [] cpos):=by
 obtain⟨ta,pa,ia⟩:=ia;obtain⟨tb,pb,ib⟩:=ib;have hs':starEach (b::[]) X.env=(false,eval b X.env)::starEach [] X.env:=hs;refine⟨_,pe_bm PySem.F.plainAttrs_list slot hty hm pa (pa_cons pb pa_nil hs') hbase (by rw[hs];rfl) hline hs' rfl,λF σ δ H Q S h=>?_⟩;simp only[ev] at h;refine ia F σ δ H _ S (Meet.mono (Meet.bind h) (λp _ hp F1 x H1 u1 g1=>?_) λc z=>z);have hp1:Post X.K cl (λc=>XE c σ) m (frsh (.op2 o ea eb)) F1 H1 Q ((ev Φ G true eb δ).bind λy=>op2 o p y):=Post.up hp u1;refine⟨?_,?_⟩
 ·rcases hl p .non with⟨ds,rfl⟩|_
  ·obtain⟨l,vs,rfl,h1,r1⟩:=g1.got.lst
   exact .inl ⟨rfl,vs,SqL.of h1⟩
  ·by_cases hc:∃ds,p=.lst ds
   ·obtain⟨ds,rfl⟩:=hc
    obtain⟨l,vs,rfl,h1,r1⟩:=g1.got.lst;exact .inl ⟨rfl,vs,SqL.of h1⟩
   ·exfalso
    cases e:ev Φ G true eb δ with
    |ok y=>
     rw[e] at hp1;rcases hl p y with z|z
     ·exact hc z
     ·have:Post X.K cl (λc=>XE c σ) m (frsh (.op2 o ea eb)) F1 H1 Q (op2 o p y):=hp1
      rw[z] at this;exact this
    |exc c=>
     exact hx δ c e
    |bad=>rw[e] at hp1;exact hp1
 ·show tCons tb tNil σ H1 _
  refine ib F1 σ δ H1 _ (S.up u1) (Meet.mono (Meet.bind hp1) (λq _ hq F2 y H2 u2 g2=>?_) λc z=>z);exact ho _ F2 H2 x y p q Q (g1.got.up u2) g2.got (Post.up hq u2)
theorem boot_isinstance:bootBuiltins "isinstance"=some (.builtin "isinstance"):=by first|exact PySem.boot_isinstance|rfl|decide+kernel
theorem boot_int:bootBuiltins "int"=some (.type "int"):=by first|exact PySem.boot_int|rfl|decide+kernel
theorem boot_bool:bootBuiltins "bool"=some (.type "bool"):=by first|exact PySem.boot_bool|rfl|decide+kernel
theorem boot_tuple:bootBuiltins "tuple"=some (.type "tuple"):=by first|exact PySem.boot_tuple|rfl|decide+kernel
theorem boot_list:bootBuiltins "list"=some (.type "list"):=by first|exact PySem.boot_list|rfl|decide+kernel
theorem boot_max:bootBuiltins "max"=some (.builtin "max"):=by first|exact PySem.boot_max|rfl|decide+kernel
noncomputable def tyName:D->String
 |.non=>"NoneType"|.bl _=>"bool"|.int _=>"int"|.str _=>"str"|.tup _=>"tuple"|.lst _=>"list"|_=>""
theorem isi_run{pins:List (Addr×Obj)}{σ:St}{s:Shared}{A:Around}{E:Value->Shared->Prop}{QQ:Value->Shared->Prop}{u c:Value}{b:Bool}(I:Inv X pins σ H s)(g:Got X.K cl F H p x)(hp:pln 1000 p=true)(rx:RelV x u)
  (e:PySem.W.kitOne X.K (.type (tyName p)) c=some b) (h:∀tk,QQ (.bool b) {s with toks:=tk}):wpAny (model X.prog X.w) A (call (.builtin "isinstance") [u,c]) QQ E s:=by
 cases p with
 |non=>rw[g.non] at rx;cases rx;exact PySem.W.kia_one PySem.W.kitx_none I.kIn True.intro e (λz=>nomatch z) h
 |bl y=>rw[g.bl] at rx;cases rx;exact PySem.W.kia_one PySem.W.kitx_bool I.kIn True.intro e (λz=>nomatch z) h
 |int i=>rw[g.int] at rx;obtain⟨t,rfl⟩:=rx;exact PySem.W.kia_one PySem.W.kitx_int I.kIn True.intro e (λz=>nomatch z) h
 |str y=>rw[g.str] at rx;obtain⟨t,rfl⟩:=rx;exact PySem.W.kia_one PySem.W.kitx_str I.kIn True.intro e (λz=>nomatch z) h
 |tup ds=>
  obtain⟨a,vs,rfl,h1,r1⟩:=g.tup;cases (show u=Value.ref a from rx);obtain⟨its,_,⟨o,ho,hc,_⟩,_⟩:=I.tuple h1;exact PySem.W.kia_one PySem.W.kitx_tuple I.kIn ⟨o,ho,hc⟩ e (λz=>nomatch z) h
 |lst ds=>
  obtain⟨a,vs,rfl,h1,r1⟩:=g.lst;cases (show u=Value.ref a from rx);obtain⟨_,_,n,_,h2⟩:=I.hok a _ h1;exact PySem.W.kia_one PySem.W.kitx_list I.kIn ⟨_,h2,rfl⟩ e (λz=>nomatch z) h
 |_=>simp[pln] at hp
noncomputable def rIsi(K:PySem.W.Frag)(cl:Nat->Addr)(T:String):List V->Hp->VK->Prop:=λxs H Q=>∃F d x b,xs=[x,.ty T]/\Got K cl F H d x/\pln 1000 d=true/\PySem.W.kitOne K (.type (tyName d)) (.type T)=some b/\Q (.bl b) H
theorem vO(T:String):CallR X (.builtin "isinstance") (rIsi X.K cl T):=by
 intro pins s σ H xs us Q I r h;obtain⟨F,d,x,b,rfl,g,hp,e,q⟩:=h;obtain⟨u,w,rfl,ru,rw'⟩:=vals2 r;cases (show w=Value.type T from rw');exact isi_run I g hp ru e λtk=>⟨.bl b,H,I.tok tk,rfl,q⟩
noncomputable def isTy(T:String)(d:D):Bool:=match d with
 |.bl _=>T=="bool"||T=="int"
 |d=>T==tyName d
theorem kit_ty(K:PySem.W.Frag)(T:String)(hT:T="int"\/T="bool"\/T="tuple"\/T="list"\/T="str")(d:D)(hp:pln 1000 d=true):PySem.W.kitOne K (.type (tyName d)) (.type T)=some (isTy T d):=by
 rcases hT with rfl|rfl|rfl|rfl|rfl<;>cases d<;>first|(simp[pln] at hp;done)|rfl|decide+kernel
theorem kZ(hT:T="int"\/T="bool"\/T="tuple"\/T="list"\/T="str")
  (hg:Gl X "isinstance") (hm:X.mg "isinstance"=none) (hg2:Gl X Tn) (hm2:X.mg Tn=none) (hv:bootBuiltins Tn=some (.type T)) (hn:Tn≠"__name__") (hdb:(Tn==("__debug__":Str))=false) (ia:OkE X cl XE Φ G true ea a)
  (hs:starEach [a,.Name Tn p2] X.env=[(false,eval a X.env),(false,eval (.Name Tn p2) X.env)]) (hfr:frsh (.op1 o ea)=false)
  (ho:∀d,(op1 o d=.ok (.bl (isTy T d))/\pln 1000 d=true)\/op1 o d=.bad):OkE X cl XE Φ G m (.op1 o ea) (.Call (.Name "isinstance" p1) [a,.Name Tn p2] [] pos):=by
 obtain⟨ta,pa,ia⟩:=ia;have pt:PE X (.Name Tn p2) (tC (.ty T)):=pe_bltn hg2 hm2 hv rfl hn hdb;have hs':starEach (a::[.Name Tn p2]) X.env=(false,eval a X.env)::starEach [.Name Tn p2] X.env:=hs;refine⟨_,dF (vO (cl:=cl) T) hg hm boot_isinstance (pa_cons pa (pa_cons pt pa_nil rfl) hs') (by decide) (by decide) hs' rfl,λF σ δ H Q S h=>?_⟩;simp only[ev] at h;refine ia F σ δ H _ S (Meet.mono (Meet.bind h) (λd _ hp F1 x H1 u1 g1=>?_) λc z=>z);have hp1:=Post.up hp u1;rcases ho d with⟨e,pl⟩|e
 ·rw[e] at hp1
  exact⟨F1,d,x,_,rfl,g1.got,pl,kit_ty X.K T hT d pl,Post.bl hp1⟩
 ·rw[e] at hp1;exact hp1.no.elim
theorem vP(d:D):(op1 .isInt d=.ok (.bl (isTy "int" d))/\pln 1000 d=true)\/op1 .isInt d=.bad:=by
 cases d<;>first|exact .inl ⟨rfl,by simp[pln]⟩|exact .inr rfl|skip
 all_goals exact Classical.byCases (λhc=>.inl ⟨yM hc,hc⟩) λhc=>.inr (yK hc)
theorem sX(d:D):(op1 .isBool d=.ok (.bl (isTy "bool" d))/\pln 1000 d=true)\/op1 .isBool d=.bad:=by
 cases d<;>first|exact .inl ⟨rfl,by simp[pln]⟩|exact .inr rfl|skip
 all_goals exact Classical.byCases (λhc=>.inl ⟨yM hc,hc⟩) λhc=>.inr (yK hc)
theorem vQ(d:D):(op1 .isTup d=.ok (.bl (isTy "tuple" d))/\pln 1000 d=true)\/op1 .isTup d=.bad:=by
 cases d<;>first|exact .inl ⟨rfl,by simp[pln]⟩|exact .inr rfl|skip
 all_goals exact Classical.byCases (λhc=>.inl ⟨yM hc,hc⟩) λhc=>.inr (yK hc)
theorem vR(d:D):(op1 .isLst d=.ok (.bl (isTy "list" d))/\pln 1000 d=true)\/op1 .isLst d=.bad:=by
 cases d<;>first|exact .inl ⟨rfl,by simp[pln]⟩|exact .inr rfl|skip
 all_goals exact Classical.byCases (λhc=>.inl ⟨yM hc,hc⟩) λhc=>.inr (yK hc)
end
noncomputable def spOf(K:PySem.W.Frag)(cl:Nat->Addr)(Φ:Nat->List D->R D)(f:Nat):Sp:=λvs H Q E=>∃F ds,Trk F H/\Reps K cl F H ds vs/\
 Meet (Φ f ds) (λd=>∀F' v H',Up F H F' H'->Rep K cl F' H' d v->Q v H') λc=>∀F' H',Up F H F' H'->E (.ref (cl c)) none H'
noncomputable def XK1(cl:Nat->Addr)(YE:Nat->Hp->Prop):XK:=λk _ H'=>∃c,k=.ref (cl c)/\YE c H'
section
variable{X:Cx}{cl:Nat->Addr}{XE:Nat->St->Hp->Prop}{YE:Nat->Hp->Prop}{Φ:Nat->List D->R D}{G:List D}{m fr:Bool}
noncomputable def PassAt(CX:CXT)(X:Cx)(σ:St)(E:XK):Prop:=∀(pins:List (Addr×Obj))(H:Hp)(s:Shared)(e:Value)(s':Shared),Inv X pins σ H s->CX X.stack H s E e s'->X.xe e s'
theorem run_fnX(Fo:FnOk X.prog X.w X.K X.mg X.base CX k f fd ps sp)(hr:Room k X.A)
  (hb:Binds X.K fd ps []) (hx:PassAt CX X σ E) (I:Inv X pins σ H s) (r:Vals vs us) (h:sp vs H Q E):wpAny (model X.prog X.w) X.A (call (.ref f) us) (EP X pins σ Q) X.xe s:=by
 have hl:(us++[]).length=ps.length:=by rw[aAQ,←r.length];exact Fo.len _ _ _ _ h
 have hbb:=hb s us I.kIn hl;rw[aAQ] at hbb;refine wpAny_call (codeAny_mono (Fo.run X.A X.stack s H ⟨us,[]⟩ us vs Q E hr I.env0 hbb r h) λr s' hq=>?_)
 cases r with
 |error e=>exact hx pins H s e s' I hq
 |ok fl=>
  cases fl with
  |ret u=>exact I.after hq
  |next=>exact False.elim hq
  |brk=>exact False.elim hq
  |cont=>exact False.elim hq
theorem mL{E:St->XK}(Fo:FnOk X.prog X.w X.K X.mg X.base CX k f fd ps sp)(hr:Room k X.A)(hg:Gl X x)(hm:X.mg x=some (.ref f))
  (hk:PySem.W.keepIn X.K (.ref f)=true) (hb:Binds X.K fd ps []) (hx:∀σ,PassAt CX X σ (E σ)) (ha:PA X (e::es) t) (hdb:(x==("__debug__":Str))=false)
  (he:starEach (e::es) X.env=(false,eval e X.env)::starEach es X.env) (hpl:(backTo pos (starEach es X.env)).any (·.1)=false):
  PE X (.Call (.Name x p) (e::es) [] pos) (λσ H Q=>t σ H λvs H1=>sp vs H1 Q (E σ)):=by
 intro pins s σ H Q I h;refine wpAny_Call_Name_kw (kK I hg hm ?_ hdb);refine PySem.W.callWith_K (h₀:=X.base) I.ok.mod.kin hk (thn (ha pos pins s σ H _ I h) λus s1 ⟨vs,H1,I1,r,q⟩=>⟨I1.kIn,?_⟩) he hpl;exact run_fnX Fo hr hb (hx σ) I1 r q
theorem ok_call(Fo:FnOk X.prog X.w X.K X.mg X.base CX k fa fd ps (spOf X.K cl Φ f))(hr:Room k X.A)
  (hg:Gl X x) (hm:X.mg x=some (.ref fa)) (hk:PySem.W.keepIn X.K (.ref fa)=true) (hb:Binds X.K fd ps []) (hx:∀σ,PassAt CX X σ (XK1 cl λc=>XE c σ)) (hdb:(x==("__debug__":Str))=false)
  (he:starEach (e::es) X.env=(false,eval e X.env)::starEach es X.env) (hpl:(backTo pos (starEach es X.env)).any (·.1)=false) (ia:OkA X cl XE Φ G false exs (e::es)):
  OkE X cl XE Φ G m (.call f exs) (.Call (.Name x p) (e::es) [] pos):=by
 obtain⟨ta,pa,ia⟩:=ia;refine⟨_,mL Fo hr hg hm hk hb hx pa hdb he hpl,λF σ δ H Q S h=>?_⟩;simp only[ev] at h;refine ia F σ δ H _ S (Meet.mono (Meet.bind h) (λds _ hp F1 vs H1 u1 g1=>?_) λc z=>z);rw[yK yL] at g1;refine⟨F1,ds,(S.up u1).trk,g1,Meet.mono (Post.up hp u1) (λd _ q F2 v H2 u2 r2=>q F2 v H2 u2 (Res.gives (.of_rep r2 (by simp[frsh])))) λc z F2 H2 u2=>⟨c,rfl,z F2 H2 u2⟩⟩
variable{F:Addr->Prop}{H:Hp}{Q:VK}{x y:V}{p q:D}
theorem k7:∀{ks:List Int}{ds:List D}{kvs:List (Key×V)}(i:Int),kvs.map (·.1)=ks.map Sum.inl->Reps X.K cl F H ds (kvs.map (·.2))->
  (match lookD ks ds i with|some d=>∃v,valV kvs (Sum.inl i)=some v/\Rep X.K cl F H d v|none=>valV kvs (Sum.inl i)=none)/\decide (i∈ks)=(valV kvs (Sum.inl i)).isSome
 |[],ds,kvs,i,h,r=>by
  have:kvs=[]:=by cases kvs with|nil=>rfl|cons _ _=>simp at h
  subst this;have:ds=[]:=by have:=r.length;cases ds with|nil=>rfl|cons _ _=>simp at this
  subst this;exact⟨rfl,rfl⟩
 |k::ks,ds,kvs,i,h,r=>by
  cases kvs with
  |nil=>simp at h
  |cons kv kvs=>
   obtain⟨kk,v⟩:=kv;simp only[yQ,List.cons.injEq] at h;obtain⟨h1,h2⟩:=h;subst h1
   cases ds with
   |nil=>have:=r.length;simp at this
   |cons d ds=>
    obtain⟨v',r',z,a1,a2⟩:=r.cons_inv;have z':v=v'/\kvs.map (·.2)=r':=by simpa using z
    obtain⟨rfl,rfl⟩:=z';obtain⟨ih1,ih2⟩:=k7 i h2 a2;by_cases hc:k=i
    ·subst hc
     have e1:valV ((Sum.inl k,v)::kvs) (Sum.inl k:Key)=some v:=dG rfl;refine⟨?_,?_⟩
     ·simp only[lookD,yT]
      exact⟨v,e1,a1⟩
     ·rw[e1];simp
    ·have e1:valV ((Sum.inl k,v)::kvs) (Sum.inl i:Key)=valV kvs (Sum.inl i):=dH (λz=>hc (Sum.inl.inj z))
     refine⟨?_,?_⟩
     ·simp only[lookD,yK hc]
      rw[e1];exact ih1
     ·rw[e1,←ih2]
      simp only[zA,decide_eq_decide];constructor
      ·rintro(z|z)
       ·exact absurd z.symm hc
       ·exact z
      ·exact .inr
theorem ok_dget(hu:X.A.units+1<cLine)(hs:NoSl b)(ia:OkE X cl XE Φ G true ea a)(ib:OkE X cl XE Φ G true eb b):OkE X cl XE Φ G m (.dget ea eb) (.Subscript a b pos):=by
 obtain⟨ta,pa,ia⟩:=ia;obtain⟨tb,pb,ib⟩:=ib;refine⟨_,pe_dget hu pa pb hs,λF σ δ H Q S h=>?_⟩;simp only[ev] at h;refine ia F σ δ H _ S (Meet.mono (Meet.bind h) (λp _ hp F1 x H1 u1 g1=>?_) λc z=>z);refine ib F1 σ δ H1 _ (S.up u1) (Meet.mono (Meet.bind (Post.up hp u1)) (λq _ hq F2 y H2 u2 g2=>?_) λc z=>z);have hq2:=Post.up (K:=X.K) (cl:=cl) hq u2;obtain⟨ks,ds,i,rfl,rfl⟩:∃ks ds i,p=.dic ks ds/\q=.int i:=by
  cases p<;>cases q<;>first|exact(show False from hq2).elim|exact⟨_,_,_,rfl,rfl⟩
 obtain⟨l,kvs,rfl,h1,h2,h3⟩:=(g1.got.up u2).dic;have hq3:Post X.K cl (λc=>XE c σ) m (frsh (.dget ea eb)) F2 H2 Q (ofO (lookD ks ds i)):=hq2;have lk:=(k7 i h2 h3).1
 cases e:lookD ks ds i with
 |none=>rw[e] at hq3;exact(show False from hq3).elim
 |some d=>
  rw[e] at hq3 lk;obtain⟨v,e1,e2⟩:=lk;refine⟨l,v,rfl,?_,Post.hereR hq3 e2 (by simp[frsh])⟩;rw[g2.got.int];have:=DGet.k (k:=Sum.inl i) h1;rw[e1] at this;exact this
theorem sY:CallR X (.builtin "len") (λxs H Q=>∃a kvs,xs=[V.ref a]/\H a=some (.dK kvs)/\Q (.int kvs.length) H):=by
 intro pins s σ H xs us Q I r h;obtain⟨a,kvs,rfl,ha,q⟩:=h;obtain⟨u,rfl,ru⟩:=vals1 r;cases ru;exact d_len I (.inl ha) λt s' I'=>⟨.int kvs.length,H,I',⟨t,rfl⟩,q⟩
noncomputable def lenD:D->R D
 |.dic ks _=>.ok (.int ks.length)
 |_=>.bad
theorem ok_dlen{p pos:Pos}(hg:Gl X "len")(hm:X.mg "len"=none)(hs:starEach [a] X.env=[(false,eval a X.env)])(ia:OkE X cl XE Φ G true ea a):OkE X cl XE Φ G m (.dlen ea) (.Call (.Name "len" p) [a] [] pos):=by
 have hs':starEach (a::[]) X.env=(false,eval a X.env)::starEach [] X.env:=hs;refine dS (exs:=[ea]) (o:=lift1 lenD) (λδ=>?_) sY hg hm PySem.boot_len (by decide) (by decide) hs' rfl (aU hs' ia bG) λYE F H vs ds Q t g h=>?_
 ·simp only[ev,evs]
  cases ev Φ G true ea δ with
  |ok d=>cases d<;>rfl
  |exc c=>rfl
  |bad=>rfl
 ·match ds,g,h with
  |[],_,h=>exact(show False from h).elim
  |_::_::_,_,h=>exact(show False from h).elim
  |[d],g,h=>
   obtain⟨v,rfl,gv⟩:=Paired.one g;have h:Post X.K cl YE m (frsh (.dlen ea)) F H Q (lenD d):=h;obtain⟨ks,ws,rfl⟩:∃ks ws,d=.dic ks ws:=by
    cases d<;>first|exact(show False from h).elim|exact⟨_,_,rfl⟩
   obtain⟨l,kvs,rfl,h1,h2,h3⟩:=gv.dic;have hl:kvs.length=ks.length:=by have:=congrArg List.length h2;simpa using this
   exact⟨l,kvs,rfl,h1,by rw[hl];exact Post.int h⟩
theorem tru_of{t:R Bool}(g:Got X.K cl F H p x){Q:Bool->Hp->Prop}(h:PostT YE F H Q (truth p)):∃k,TruV X.K x H k/\Q k H:=by
 cases p with
 |non=>rw[g.non];exact⟨false,rfl,h F H (Up.refl F H)⟩
 |bl b=>rw[g.bl];exact⟨b,rfl,h F H (Up.refl F H)⟩
 |int i=>
  rw[g.int];refine⟨_,rfl,?_⟩;have e:(i !=0)=decide (i≠0):=by
   by_cases hc:i=0
   ·subst hc;rfl
   ·simp[hc]
  rw[e];exact h F H (Up.refl F H)
 |str z=>exact(show False from h).elim
 |tup ds=>
  obtain⟨a,vs,rfl,h1,r1⟩:=g.tup;refine⟨!ds.isEmpty,.inr (.inl ⟨vs,h1,?_⟩),h F H (Up.refl F H)⟩;have:=r1.length;cases ds<;>cases vs<;>simp at this⊢
 |lst ds=>
  obtain⟨a,vs,rfl,h1,r1⟩:=g.lst;refine⟨!ds.isEmpty,.inl ⟨vs,SqL.of h1,?_⟩,h F H (Up.refl F H)⟩;have:=r1.length;cases ds<;>cases vs<;>simp at this⊢
 |dic _ _=>exact(show False from h).elim
 |exn _=>exact(show False from h).elim
 |scr _=>exact(show False from h).elim
theorem ok_leaf(he:∀whole,isTrue e X.env whole=(do let v←whole;standAt e.pos;holding [v] (truthy v)))(ia:OkE X cl XE Φ G true ex e):OkT X cl XE Φ G (.leaf ex) e:=by
 obtain⟨ta,pa,ia⟩:=ia;refine⟨_,uW pa he,λF σ δ H Q S h=>?_⟩;simp only[evT] at h;refine ia F σ δ H _ S (Meet.mono (Meet.bind h) (λp _ hp F1 x H1 u1 g1=>?_) λc z=>z);exact tru_of (t:=.bad) g1.got (PostT.up hp u1)
theorem ok_tnot(ia:OkT X cl XE Φ G tx e):OkT X cl XE Φ G (.not tx) (.UnaryOp .Not e pos):=by
 obtain⟨ta,pa,ia⟩:=ia;refine⟨_,pt_not pa,λF σ δ H Q S h=>?_⟩;simp only[evT] at h;exact ia F σ δ H _ S (Meet.mono (Meet.bind h) (λb _ hp F1 H1 u1=>hp F1 H1 u1) λc z=>z)
theorem vS(ia:OkT X cl XE Φ G tx e):OkW X cl XE Φ G tx (.BoolOp .And [e] pos):=by
 obtain⟨ta,pa,ia⟩:=ia;exact⟨_,pw_and1 pa,ia⟩
theorem ok_tor1(ia:OkT X cl XE Φ G tx e):OkW X cl XE Φ G tx (.BoolOp .Or [e] pos):=by
 obtain⟨ta,pa,ia⟩:=ia;exact⟨_,pw_or1 pa,ia⟩
theorem ok_tand(ia:OkT X cl XE Φ G ta a)(ib:OkW X cl XE Φ G tb (.BoolOp .And (b::rest) pos)):OkW X cl XE Φ G (.and ta tb) (.BoolOp .And (a::b::rest) pos):=by
 obtain⟨ra,pa,ia⟩:=ia;obtain⟨rb,pb,ib⟩:=ib;refine⟨_,pw_and pa pb,λF σ δ H Q S h=>?_⟩;simp only[evT] at h;refine ia F σ δ H _ S (Meet.mono (Meet.bind h) (λc _ hp F1 H1 u1=>?_) λc z=>z);have hp:=PostT.up hp u1
 cases c with
 |true=>exact ib F1 σ δ H1 Q (S.up u1) hp
 |false=>exact hp F1 H1 (Up.refl F1 H1)
theorem ok_tor(ia:OkT X cl XE Φ G ta a)(ib:OkW X cl XE Φ G tb (.BoolOp .Or (b::rest) pos)):OkW X cl XE Φ G (.or ta tb) (.BoolOp .Or (a::b::rest) pos):=by
 obtain⟨ra,pa,ia⟩:=ia;obtain⟨rb,pb,ib⟩:=ib;refine⟨_,pw_or pa pb,λF σ δ H Q S h=>?_⟩;simp only[evT] at h;refine ia F σ δ H _ S (Meet.mono (Meet.bind h) (λc _ hp F1 H1 u1=>?_) λc z=>z);have hp:=PostT.up hp u1
 cases c with
 |true=>exact hp F1 H1 (Up.refl F1 H1)
 |false=>exact ib F1 σ δ H1 Q (S.up u1) hp
theorem OkW.t(h:OkW X cl XE Φ G tx e):OkT X cl XE Φ G tx e:=let⟨t,p,q⟩:=h;⟨t,p.pt,q⟩
end
noncomputable def tE(K:PySem.W.Frag)(cl:Nat->Addr)(XE:Nat->St->Hp->Prop)(Φ:Nat->List D->R D)(G:List D)(m:Bool)(ex:Ex):TE:=λσ H Q=>∃F δ,Sees K cl F H σ δ/\Post K cl (λc=>XE c σ) m (frsh ex) F H Q (ev Φ G m ex δ)
noncomputable def tO(K:PySem.W.Frag)(cl:Nat->Addr)(XE:Nat->St->Hp->Prop)(Φ:Nat->List D->R D)(G:List D)(c:Option Tx):TT:=λσ H Q=>∃F δ,Sees K cl F H σ δ/\PostT (λc=>XE c σ) F H Q (evO Φ G c δ)
section
variable{X:Cx}{cl:Nat->Addr}{XE:Nat->St->Hp->Prop}{YE:Nat->Hp->Prop}{Φ:Nat->List D->R D}{G:List D}{m fr:Bool}
theorem OkE.pe(h:OkE X cl XE Φ G m ex e):PE X e (tE X.K cl XE Φ G m ex):=by
 obtain⟨t,p,q⟩:=h;exact λpins s σ H Q I ⟨F,δ,S,z⟩=>p pins s σ H Q I (q F σ δ H Q S z)
noncomputable def OkC(X:Cx)(cl:Nat->Addr)(XE:Nat->St->Hp->Prop)(Φ:Nat->List D->R D)(G:List D)(c:Option Tx)(ifs:List Expr):Prop:=PTs X ifs (tO X.K cl XE Φ G c)
theorem mM:OkC X cl XE Φ G none []:=λpins s σ H Q I ⟨F,δ,S,z⟩=>pts_nil pins s σ H Q I (by simp only[evO] at z;exact z F H (Up.refl F H))
theorem vT(h:OkT X cl XE Φ G tx e):OkC X cl XE Φ G (some tx) [e]:=by
 obtain⟨t,p,q⟩:=h;exact λpins s σ H Q I ⟨F,δ,S,z⟩=>pts_one p pins s σ H Q I (q F σ δ H Q S (by simpa only[evO] using z))
noncomputable def Stb(m:Bool)(F:Addr->Prop)(H H':Hp):Prop:=if m=true then Same H H' else Pres F H H'
structure Wk(K:PySem.W.Frag)(cl:Nat->Addr)(m:Bool)(J:It)(xs:List D)(P:(Addr->Prop)->Hp->Prop):Prop where
 st:∀F H F' H',P F H->Stb m F H H'->(∀a,F a->F' a)->P F' H'
 go:∀F H (i:Nat) x,P F H->xs[i]?=some x->J.go i H/\∀v H',J.yld i H v H'->Up F H F H'/\Rep K cl F H' x v
 stop:∀F H,P F H->J.stop xs.length H
structure OkI(X:Cx)(cl:Nat->Addr)(XE:Nat->St->Hp->Prop)(Φ:Nat->List D->R D)(G:List D)(m:Bool)(k:IterK)(its:List Ex)(tg iter:Expr):Prop where
 ok:∃wi,PI X tg iter wi/\∀F σ δ H R,Sees X.K cl F H σ δ->
 Meet ((evs Φ G m its δ).bind (itemsD k)) (λxs=>∀F' H' J P,Up F H F' H'->Wk X.K cl m J xs P->P F' H'->R J H') (λc=>∀F' H',Up F H F' H'->XE c σ H')->wi σ H R
theorem PI.or(h:PI X tg iter wi)(h':PI X tg iter wi'):PI X tg iter (λσ H R=>wi σ H R\/wi' σ H R):=λpins s σ H R I z=>z.elim (h pins s σ H R I) (h' pins s σ H R I)
theorem qV{a:Addr}{xs:List D}:Wk X.K cl m (Itl X.K a) xs (λF H=>(m=true\/F a)/\∃vs,H a=some (.lst vs)/\Reps X.K cl F H xs vs) where
 st:=λF H F' H' ⟨hm,vs,h1,r1⟩ hs sub=>by
  unfold Stb at hs;by_cases hc:m=true
  ·rw[yM hc] at hs
   exact⟨.inl hc,vs,hs _ _ h1,r1.mono (Pres.of_same hs) sub⟩
  ·rw[yK hc] at hs
   have fa:F a:=hm.resolve_left hc;exact⟨.inr (sub a fa),vs,hs.fr _ _ fa h1,r1.mono hs sub⟩
 go:=λF H i x ⟨_,vs,h1,r1⟩ hx=>by
  obtain⟨v,h2,h3⟩:=r1.get hx;refine⟨⟨vs,v,SqL.of h1,h2⟩,λw H' hy=>?_⟩;obtain⟨rfl,hy⟩:=hy;have:=hy vs (SqL.of h1);rw[h2] at this;cases this;exact⟨Up.refl F _,h3⟩
 stop:=λF H ⟨_,vs,h1,r1⟩=>⟨vs,SqL.of h1,by rw[r1.length];exact yP _⟩
theorem vU{a:Addr}{xs:List D}:Wk X.K cl m (Itt X.K a) xs (λF H=>∃vs,SqT X.K H a vs/\Reps X.K cl F H xs vs) where
 st:=λF H F' H' ⟨vs,h1,r1⟩ hs sub=>by
  have hs':Pres F H H':=by
   unfold Stb at hs;by_cases hc:m=true
   ·rw[yM hc] at hs;exact Pres.of_same hs
   ·rw[yK hc] at hs;exact hs
  exact⟨vs,hs'.sqT h1,r1.mono hs' sub⟩
 go:=λF H i x ⟨vs,h1,r1⟩ hx=>by
  obtain⟨v,h2,h3⟩:=r1.get hx;refine⟨⟨vs,v,h1,h2⟩,λw H' hy=>?_⟩;obtain⟨rfl,hy⟩:=hy;have:=hy vs h1;rw[h2] at this;cases this;exact⟨Up.refl F _,h3⟩
 stop:=λF H ⟨vs,h1,r1⟩=>⟨vs,h1,by rw[r1.length];exact yP _⟩
theorem o9{lo:Int}(h:(rangeD lo n)[i]?=some x):i<n/\x=.int (lo+i):=by
 unfold rangeD at h;rw[zE] at h;by_cases hc:i<n
 ·rw[List.getElem?_range hc] at h
  simp at h;exact⟨hc,h.symm⟩
 ·rw[aAL (by simp;omega)] at h;cases h
theorem wk_rng{lo:Int}{n:Nat}:Wk X.K cl m (Itr lo n) (rangeD lo n) (λ_ _=>True) where
 st:=λ_ _ _ _ _ _ _=>trivial
 go:=λF H i x _ hx=>by
  obtain⟨hi,rfl⟩:=o9 hx;refine⟨hi,λv H' hy=>?_⟩;obtain⟨rfl,rfl⟩:=hy;exact⟨Up.refl F _,by simp[Rep]⟩
 stop:=λF H _=>by show n<=(rangeD lo n).length;simp[rangeD]
theorem jR:∀{xs:List D}{n i:Nat}{x:D},(enumD n xs)[i]?=some x->∃y,xs[i]?=some y/\x=.tup [.int ((n+i:Nat):Int),y]
 |[],n,i,x,h=>by simp[enumD] at h
 |y::xs,n,0,x,h=>by simp[enumD] at h;exact⟨y,by simp,h.symm⟩
 |y::xs,n,i+1,x,h=>by
  obtain⟨z,h1,h2⟩:=jR (xs:=xs) (n:=n+1) (i:=i) (by simpa[enumD] using h);exact⟨z,by simpa using h1,by rw[h2];congr 3;omega⟩
theorem jS:∀(xs:List D)(n:Nat),(enumD n xs).length=xs.length
 |[],_=>rfl
 |_::xs,n=>by simp[enumD,jS xs (n+1)]
theorem wk_enum{a:Addr}{xs:List D}:Wk X.K cl m (Ite X.K a) (enumD 0 xs) (λF H=>∃vs,SqT X.K H a vs/\Reps X.K cl F H xs vs) where
 st:=(vU (X:=X) (cl:=cl) (m:=m) (a:=a) (xs:=xs)).st
 go:=λF H i x ⟨vs,h1,r1⟩ hx=>by
  obtain⟨y,e1,rfl⟩:=jR hx;obtain⟨v,h2,h3⟩:=r1.get e1;refine⟨⟨vs,v,h1,h2⟩,λw H' hy=>?_⟩;obtain⟨t,z,ht,rfl,rfl,hy⟩:=hy;have:=hy vs h1;rw[h2] at this;cases this;refine⟨Up.alloc ht,?_⟩;simp only[Rep];refine⟨t,_,rfl,SqT.of upd_same,Reps.cons ?_ (Reps.cons (h3.up (Up.alloc ht)) Reps.nil)⟩;simp[Rep]
 stop:=λF H ⟨vs,h1,r1⟩=>⟨vs,h1,by rw[jS,r1.length];exact yP _⟩
theorem qW{α:Type}{P:Prop}[Decidable P]{a:α}{c:Nat}(h:(if P then R.ok a else R.bad)=R.exc c):False:=by split at h<;>cases h
theorem cT(h:Meet (itemsD k ss) P E):∃xs,items0 k ss=.ok xs/\P xs:=by
 unfold itemsD at h
 cases e:items0 k ss with
 |ok xs=>
  rw[e] at h;simp only[R.bind_ok] at h;by_cases hc:xs.length<=LIM
  ·rw[yM hc] at h;exact⟨xs,rfl,h⟩
  ·rw[yK hc] at h;exact(show False from h).elim
 |exc c=>
  exfalso;cases k<;>rcases ss with _|⟨d,_|⟨d',_|⟨d'',ss⟩⟩⟩<;>first|cases e|(cases d<;>first|cases e|exact qW e|(cases d'<;>first|cases e|exact qW e))
 |bad=>rw[e] at h;exact(show False from h).elim
theorem mO(g:if m=true then Paired (Got X.K cl F H) ds vs else Reps X.K cl F H ds vs):Paired (Got X.K cl F H) ds vs:=by
 by_cases hc:m=true
 ·rw[yM hc] at g;exact g
 ·rw[yK hc] at g
  clear hc
  induction ds generalizing vs with
  |nil=>rw[g.nil_inv];exact .nil
  |cons d ds ih=>obtain⟨v,r,rfl,a1,a2⟩:=g.cons_inv;exact .cons (.inl a1) (ih a2)
theorem ok_rng(hg:Gl X "range")(hm:X.mg "range"=none)(hs:starEach [a] X.env=[(false,eval a X.env)])(ia:OkE X cl XE Φ G m ea a):OkI X cl XE Φ G m .rng [ea] tg (.Call (.Name "range" p) [a] [] pos):=by
 obtain⟨ta,pa,ia⟩:=aU (es:=[]) (as:=[]) hs ia bG;refine⟨_,jF hg hm pa hs,λF σ δ H R S h=>?_⟩;refine ia F σ δ H _ S (Meet.mono (Meet.bind h) (λds _ hd F1 vs H1 u1 g1=>?_) λc z=>z);obtain⟨xs,e,hx⟩:=cT hd;have g2:=mO g1
 match ds,e,g2 with
 |[],e,_=>cases e
 |x::_::_,e,_=>cases x<;>cases e
 |[d],e,g2=>
  obtain⟨v,rfl,gv⟩:=Paired.one g2;obtain⟨n,rfl⟩:∃n,d=.int n:=by
   cases d<;>first|exact⟨_,rfl⟩|cases e
  have e:(if-(LIM:Int)<=n/\n<=LIM then Py.R.ok (rangeD 0 n.toNat) else Py.R.bad)=Py.R.ok xs:=e;by_cases hc: -(LIM:Int)<=n/\n<=(LIM:Int)
  ·rw[yM hc] at e
   cases e;rw[gv.int];have hl:(LIM:Int)=100000:=rfl;exact⟨n,rfl,by have:=hc.1;omega,by have:=hc.2;omega,hx F1 H1 _ _ u1 wk_rng trivial⟩
  ·rw[yK hc] at e;cases e
theorem ok_enum(hg:Gl X "enumerate")(hm:X.mg "enumerate"=none)(hs:starEach [a] X.env=[(false,eval a X.env)])(ia:OkE X cl XE Φ G m ea a):
  OkI X cl XE Φ G m .enum [ea] (.Tuple elts tk tpos) (.Call (.Name "enumerate" p) [a] [] pos):=by
 obtain⟨ta,pa,ia⟩:=aU (es:=[]) (as:=[]) hs ia bG;refine⟨_,pi_enum hg hm pa hs,λF σ δ H R S h=>?_⟩;refine ia F σ δ H _ S (Meet.mono (Meet.bind h) (λds _ hd F1 vs H1 u1 g1=>?_) λc z=>z);obtain⟨xs,e,hx⟩:=cT hd;have g2:=mO g1
 match ds,e,g2 with
 |[],e,_=>cases e
 |x::_::_,e,_=>cases x<;>cases e
 |[d],e,g2=>
  obtain⟨v,rfl,gv⟩:=Paired.one g2;obtain⟨ys,rfl⟩:∃ys,d=.tup ys:=by
   cases d<;>first|exact⟨_,rfl⟩|cases e
  cases e;obtain⟨b,ws,rfl,h1,r1⟩:=gv.tup;exact⟨b,rfl,⟨ws,h1⟩,hx F1 H1 _ _ u1 wk_enum ⟨ws,h1,r1⟩⟩
theorem vV(ia:OkE X cl XE Φ G m ea a):OkI X cl XE Φ G m .seq [ea] tg a:=by
 obtain⟨ta,pa,ia⟩:=ia;refine⟨_,PI.or (qJ pa) (kP pa),λF σ δ H R S h=>?_⟩;simp only[evs] at h
 cases e:ev Φ G m ea δ with
 |bad=>rw[e] at h;exact(show False from h).elim
 |exc c=>
  rw[e] at h;refine .inl (ia F σ δ H _ S ?_);rw[e];exact h
 |ok d=>
  rw[e] at h;obtain⟨xs,e2,hx⟩:=cT (show Meet (itemsD .seq [d]) _ _ from h);cases d<;>first|(cases e2;done)|skip
  ·rename_i ys
   cases e2;refine .inr (ia F σ δ H _ S ?_);rw[e];intro F1 v H1 u1 g1;obtain⟨b,ws,rfl,h1,r1⟩:=g1.got.tup;exact⟨b,rfl,⟨ws,h1⟩,hx F1 H1 _ _ u1 vU ⟨ws,h1,r1⟩⟩
  ·rename_i ys
   cases e2;refine .inl (ia F σ δ H _ S ?_);rw[e];intro F1 v H1 u1 g1;by_cases hc:m=true
   ·obtain⟨b,ws,rfl,h1,r1⟩:=g1.got.lst
    exact⟨b,rfl,⟨ws,SqL.of h1⟩,hx F1 H1 _ _ u1 qV ⟨.inl hc,ws,h1,r1⟩⟩
   ·unfold Gives at g1
    rw[yK hc] at g1;obtain⟨F2,u2,_,rp⟩:=g1.keep u1;simp only[Rep] at rp;obtain⟨b,ws,rfl,fa,h1,r1⟩:=rp;exact⟨b,rfl,⟨ws,SqL.of h1⟩,hx F2 H1 _ _ u2 qV ⟨.inr fa,ws,h1,r1⟩⟩
end
noncomputable def setsV(σ:St):List Nat->List V->St
 |i::is,v::vs=>setsV (σ.set i (some v)) is vs
 |_,_=>σ
theorem eM:∀(is:List Nat)(vs:List V)(σ:St),(setsV σ is vs).length=σ.length
 |[],_,σ=>rfl
 |_::_,[],σ=>rfl
 |i::is,v::vs,σ=>by rw[setsV,eM is vs];simp
theorem cF:∀(is:List Nat)(vs:List V)(σ:St)(j:Nat),j∉is->(setsV σ is vs)[j]?=σ[j]?
 |[],_,σ,j,_=>rfl
 |_::_,[],σ,j,_=>rfl
 |i::is,v::vs,σ,j,h=>by
  rw[setsV,cF is vs _ j λz=>h (yR _ z),zI];rintro rfl;exact h yZ
section
variable{X:Cx}{cl:Nat->Addr}{XE:Nat->St->Hp->Prop}{YE:Nat->Hp->Prop}{Φ:Nat->List D->R D}{G:List D}{m fr:Bool}
noncomputable def OkG(X:Cx)(cl:Nat->Addr)(tgs:List Nat)(g:TG)(tg:Expr):Prop:=PG X tg g/\∀F H σ v x ts Q,spread tgs.length x=some ts->Rep X.K cl F H x v->(∀vs,Reps X.K cl F H ts vs->Q (setsV σ tgs vs) H)->g v σ H Q
theorem ok_g1(hN:X.N.Nodup)(hi:X.N[i]?=some x)(hx:Loc X.env.scope x)(hf:X.fn x=true\/X.env.scope.names.lookup x=some .local):OkG X cl [i] (gName i) (.Name x pos):=by
 refine⟨fZ hN hi hx hf,λF H σ v x ts Q hs r q=>?_⟩;have:ts=[x]:=by simpa[spread] using hs.symm
 subst this;exact q [v] (Reps.cons r Reps.nil)
theorem ok_g2(hc:X.calm=true)(hN:X.N.Nodup)(hi:X.N[i]?=some x)(hx:Loc X.env.scope x)(hf:X.fn x=true\/X.env.scope.names.lookup x=some .local)
  (hj:X.N[j]?=some y) (hy:Loc X.env.scope y) (hf2:X.fn y=true\/X.env.scope.names.lookup y=some .local):
  OkG X cl [i,j] (gTup X.K 2 (gCons (gName i) (gCons (gName j) gNil))) (.Tuple [.Name x p1,.Name y p2] k pos):=by
 refine⟨pg_tup hc (mB (fZ hN hi hx hf) (mB (fZ hN hj hy hf2) pgs_nil)),λF H σ v d ts Q hs r q=>?_⟩
 cases d with
 |tup xs=>
  have hs':(if xs.length=2 then some xs else none)=some ts:=hs;by_cases hl:xs.length=2
  ·rw[yM hl] at hs'
   cases hs';simp only[Rep] at r;obtain⟨a,vs,rfl,h1,r1⟩:=r;have hv:vs.length=2:=by rw[r1.length,hl]
   match vs,hv,h1,r1 with
   |[v1,v2],_,h1,r1=>exact⟨a,[v1,v2],rfl,h1,rfl,v1,[v2],rfl,v2,[],rfl,rfl,q [v1,v2] r1⟩
  ·rw[yK hl] at hs';cases hs'
 |_=>cases hs
theorem vW(S:Sees X.K cl F H σ δ)(u:Up F H F' H')(hl:σ'.length=ntg+caps.length)
  (hc:∀j,ntg<=j->σ'[j]?=(capS σ caps ntg)[j]?) (hts:ts.length=ntg) (r:Reps X.K cl F' H' ts vs):
  Sees X.K cl F' H' (setsV σ' (List.range ntg) vs) (ts.map (λt=>some (false,t))++capOf δ caps):=by
 have S':=S.up u;have hv:vs.length=ntg:=by rw[r.length,hts]
 --the targets
 have tgt:∀(n k:Nat)(ws:List V)(τ:St),ws.length=n->k+n<=τ.length->∀i,i<n->(setsV τ (List.range' k n) ws)[k+i]?=(ws[i]?).map some:=by
  intro n
  induction n with
  |zero=>intro k ws τ _ _ i hi;exact absurd hi (Nat.not_lt_zero i)
  |succ n ih=>
   intro k ws τ hw hτ i hi
   match ws,hw with
   |w::ws,hw=>
    have hw':ws.length=n:=by simpa using hw
    rw[List.range'_succ,setsV]
    cases i with
    |zero=>
     rw[cF _ _ _ _ (by simp[List.mem_range'];omega)];simp[zD (show k<τ.length by omega)]
    |succ i=>
     have:=ih (k+1) ws (τ.set k (some w)) hw' (by simp;omega) i (by omega);rw[show k+(i+1)=k+1+i by omega,this];simp
 have lenσ:(setsV σ' (List.range ntg) vs).length=ntg+caps.length:=by rw[eM,hl]
 have get1:∀i,i<ntg->(setsV σ' (List.range ntg) vs)[i]?=(vs[i]?).map some:=λi hi=>by
  have:=tgt ntg 0 vs σ' hv (by omega) i hi;rw[List.range_eq_range'];simpa using this
 have get2:∀i,ntg<=i->(setsV σ' (List.range ntg) vs)[i]?=(capS σ caps ntg)[i]?:=λi hi=>by
  rw[cF _ _ _ _ (by simp;omega)];exact hc i hi
 have capG:∀k,(capS σ caps ntg)[ntg+k]?=(caps[k]?).map λj=>(σ[j]?).getD none:=λk=>by
  unfold capS;rw[zF (by simp),List.length_replicate,zE];simp
 have capD:∀k,(ts.map (λt=>(some (false,t):Slot))++capOf δ caps)[ntg+k]?=(caps[k]?).map λj=>(δ[j]?).getD none:=λk=>by
  rw[zF (by simp[hts]),yI,hts];unfold capOf;rw[zE];simp
 have tgtD:∀i,i<ntg->(ts.map (λt=>(some (false,t):Slot))++capOf δ caps)[i]?=(ts[i]?).map λt=>some (false,t):=λi hi=>by
  rw[zG (by simp[hts];exact hi),zE]
 refine⟨by rw[lenσ];simp[capOf,hts],S'.trk,λi d e=>?_,λi d e=>?_⟩
 ·by_cases hi:i<ntg
  ·rw[tgtD i hi] at e
   cases q:ts[i]? with
   |none=>rw[q] at e;cases e
   |some t=>
    rw[q] at e;have:t=d:=by simpa using e
    subst this;obtain⟨v,h1,h2⟩:=r.get q;exact⟨v,by rw[get1 i hi,h1];rfl,h2⟩
  ·obtain⟨k,rfl⟩:∃k,i=ntg+k:=⟨i-ntg,by omega⟩
   rw[capD k] at e
   cases q:caps[k]? with
   |none=>rw[q] at e;cases e
   |some j=>
    rw[q] at e;have e':(δ[j]?).getD none=some (false,d):=by simpa using e
    have e2:δ[j]?=some (some (false,d)):=by
     cases z:δ[j]? with
     |none=>rw[z] at e';cases e'
     |some o=>rw[z] at e';simp at e';rw[e']
    obtain⟨v,h1,h2⟩:=S'.sh j d e2;exact⟨v,by rw[get2 _ (by omega),capG k,q];simp[h1],h2⟩
 ·by_cases hi:i<ntg
  ·rw[tgtD i hi] at e
   cases q:ts[i]? with
   |none=>rw[q] at e;cases e
   |some t=>rw[q] at e;simp at e
  ·obtain⟨k,rfl⟩:∃k,i=ntg+k:=⟨i-ntg,by omega⟩
   rw[capD k] at e
   cases q:caps[k]? with
   |none=>rw[q] at e;cases e
   |some j=>
    rw[q] at e;have e':(δ[j]?).getD none=some (true,d):=by simpa using e
    have e2:δ[j]?=some (some (true,d)):=by
     cases z:δ[j]? with
     |none=>rw[z] at e';cases e'
     |some o=>rw[z] at e';simp at e';rw[e']
    obtain⟨a,h1,h2,h3⟩:=S'.ow j d e2;exact⟨a,by rw[get2 _ (by omega),capG k,q];simp[h1],h2,h3⟩
theorem gZ{cond:Option Tx}
   (hw:∀F σ δ H R,Sees X.K cl F H σ δ->Meet ((evs Φ G true its δ).bind (itemsD k)) (λxs=>∀F' H' J P,Up F H F' H'->Wk X.K cl true J xs P->P F' H'->R J H') (λc=>∀F' H',Up F H F' H'->XE c σ H')->wi σ H R)
   (hg:∀F H σ v x ts Q,spread ntg x=some ts->Rep X.K cl F H x v->(∀vs,Reps X.K cl F H ts vs->Q (setsV σ (List.range ntg) vs) H)->g v σ H Q)
   (S:Sees X.K cl F H σ δ) (h:Post X.K cl (λc=>XE c σ) m true F H Q (ev Φ G m (.comp k its caps ntg cond elt) δ)):
   tComp wi g (tO X.K cl (λ_ _ _=>False) Φ G cond) (tE X.K cl (λ_ _ _=>False) Φ G false elt) caps ntg σ H Q:=by
 simp only[ev] at h;generalize hf:(λx=>match spread ntg x with
       |none=>(.bad:R (Option D))
       | some ts=>
         (evO Φ G cond (ts.map (λt=>some (false,t))++capOf δ caps)).bind λb=>
           if b then(ev Φ G false elt (ts.map (λt=>some (false,t))++capOf δ caps)).bind λy=>.ok (some y) else .ok none)=f at h
 have h0:Meet ((evs Φ G true its δ).bind (itemsD k)) (λxs=>Post X.K cl (λc=>XE c σ) m true F H Q (R.bind (R.quiet (compM f xs)) λys=>.ok (.lst ys))) (λc=>∀F' H',Up F H F' H'->XE c σ H'):=by
   have h1:=Meet.bind h
   cases e:evs Φ G true its δ with
   |ok ss=>rw[e] at h1;exact Meet.bind h1
   |exc c=>rw[e] at h1;exact h1
   |bad=>rw[e] at h1;exact h1
 have h0':Meet ((evs Φ G true its δ).bind (itemsD k)) (λxs=>xs.length<=LIM/\Post X.K cl (λc=>XE c σ) m true F H Q (R.bind (R.quiet (compM f xs)) λys=>.ok (.lst ys))) (λc=>∀F' H',Up F H F' H'->XE c σ H'):=by
   refine Meet.mono h0 (λxs e z=>⟨?_,z⟩) λc z=>z
   cases e1:evs Φ G true its δ with
   | ok ss=>
     rw[e1] at e;have e:itemsD k ss=.ok xs:=e;unfold itemsD at e
     cases e2:items0 k ss with
     | ok ys=>
       rw[e2] at e;simp only[R.bind_ok] at e;by_cases hc:ys.length<=LIM
       · rw[yM hc] at e;cases e;exact hc
       · rw[yK hc] at e;cases e
     |exc c=>rw[e2] at e;cases e
     |bad=>rw[e2] at e;cases e
   |exc c=>rw[e1] at e;cases e
   |bad=>rw[e1] at e;cases e
 clear h h0;unfold tComp;refine hw F σ δ H _ S (Meet.mono h0' (λxs _ hx F1 H1 J P u1 W1 p1 q hq=>?_) λc z=>z);obtain⟨hlen,hx⟩:=hx
 cases ho:compM f xs with
 |exc c=>rw[ho] at hx;exact(show False from hx).elim
 |bad=>rw[ho] at hx;exact(show False from hx).elim
 | ok out=>
   rw[ho] at hx;have hx:Post X.K cl (λc=>XE c σ) m true F H Q (.ok (.lst out)):=hx;have nq:∀b o,H1 b=some o->b≠q:=λb o e z=>by rw[z,hq] at e;cases e
   have nF1:¬F1 q:=(S.up u1).trk.fresh hq;refine⟨λi n σ' H'=>n=xs.length-i/\i<=xs.length/\σ'.length=ntg+caps.length/\(∀j,ntg<=j->σ'[j]?=(capS σ caps ntg)[j]?)/\
     ∃F' ys ds rest,Up F1 H1 F' H'/\¬F' q/\H' q=some (.lst ys)/\Reps X.K cl F' H' ds ys/\ds.length<=i/\compM f (xs.drop i)=.ok rest/\out=ds++rest,⟨xs.length,?_⟩,?_⟩
   · refine⟨by simp,Nat.zero_le _,by simp[capS],λj _=>rfl,F1,[],[],out,Up.alloc hq,nF1,upd_same,Reps.nil,yP _,by simpa using ho,rfl⟩
   · rintro i n σ' H' ⟨rfl,hi,hl,hc,F',ys,ds,rest,u2,nF,hqs,r2,hdl,hcm,hout⟩
     have pH:P F' H':=W1.st F1 H1 F' H' p1 (by unfold Stb;rw[yM rfl];exact u2.same) u2.sub;by_cases hlt:i<xs.length
     · refine .inr ?_
       obtain⟨go,yl⟩:=W1.go F' H' i xs[i] pH (by simp[hlt]);refine⟨go,λv H2 hy=>?_⟩;obtain⟨u3,rx⟩:=yl v H2 hy;have hd:xs.drop i=xs[i]::xs.drop (i+1):=z9 hlt;rw[hd] at hcm;simp only[compM] at hcm
       cases hfx:f xs[i] with
       |exc c=>rw[hfx] at hcm;cases hcm
       |bad=>rw[hfx] at hcm;cases hcm
       | ok o=>
         rw[hfx] at hcm;simp only[R.bind_ok] at hcm
         cases hrest:compM f (xs.drop (i+1)) with
         |exc c=>rw[hrest] at hcm;cases hcm
         |bad=>rw[hrest] at hcm;cases hcm
         | ok rest'=>
           rw[hrest] at hcm;simp only[R.bind_ok,R.ok.injEq] at hcm;have hfx':=hfx;rw[←hf] at hfx';dsimp only at hfx'
           cases hsp:spread ntg xs[i] with
           |none=>rw[hsp] at hfx';cases hfx'
           | some ts=>
             rw[hsp] at hfx';dsimp only at hfx';have hts:ts.length=ntg:=by
               match ntg,xs[i],hsp with
               |0,d,hsp=>cases d<;>cases hsp
               | 1, d, hsp => have:[d]=ts:=by simpa[spread] using hsp
                              subst this;rfl
               | n+2,d,hsp=>
                 cases d<;>first|(cases hsp;done)|skip;simp only[spread] at hsp;split at hsp
                 · rename_i hh;cases hsp;exact hh
                 · cases hsp
             refine hg F' H2 σ' v xs[i] ts _ hsp rx λvs rv=>?_;have u3':Up F1 H1 F' H2:=u2.trans u3;have S2:Sees X.K cl F' H2 (setsV σ' (List.range ntg) vs) (ts.map (λt=>some (false,t))++capOf δ caps):=vW S (u1.trans u3') hl hc hts rv;have hl2:(setsV σ' (List.range ntg) vs).length=ntg+caps.length:=by rw[eM];exact hl
             have hc2:∀j,ntg<=j->(setsV σ' (List.range ntg) vs)[j]?=(capS σ caps ntg)[j]?:=λj hj=>by
               rw[cF _ _ _ _ (by simp;omega)];exact hc j hj
             have hq2:H2 q=some (.lst ys):=u3.same _ _ hqs
             cases hb:evO Φ G cond (ts.map (λt=>some (false,t))++capOf δ caps) with
             |exc c=>rw[hb] at hfx';cases hfx'
             |bad=>rw[hb] at hfx';cases hfx'
             | ok b=>
               rw[hb] at hfx';simp only[R.bind_ok] at hfx';refine⟨F',_,S2,?_⟩;rw[hb];intro F3 H3 u4;have S3:=S2.up u4;have hq3:H3 q=some (.lst ys):=u4.same _ _ hq2;have nF3:¬F3 q:=λz=>(u4.new q z).elim nF λy=>by rw[hq2] at y;cases y.1
               have r3:Reps X.K cl F3 H3 ds ys:=(r2.up u3).up u4
               cases b with
               | false=>
                 rw[yK yL] at hfx';cases hfx';show∃m',_;refine⟨xs.length-(i+1),by omega,rfl,hlt,hl2,hc2,F3,ys,ds,rest',u3'.trans u4,nF3,hq3,r3,by omega,hrest,?_⟩;rw[hout,←hcm]
               | true=>
                 rw[yM rfl] at hfx'
                 cases hy2:ev Φ G false elt (ts.map (λt=>some (false,t))++capOf δ caps) with
                 |exc c=>rw[hy2] at hfx';cases hfx'
                 |bad=>rw[hy2] at hfx';cases hfx'
                 | ok y=>
                   rw[hy2] at hfx';simp only[R.bind_ok] at hfx';cases hfx';show tE X.K cl (λ_ _ _=>False) Φ G false elt _ H3 _;refine⟨F3,_,S3,?_⟩;rw[hy2];intro F4 w H4 u5 gv;unfold Gives at gv;rw[yK yL] at gv;obtain⟨F5,u6,sub5,rw'⟩:=gv.keep u5;have hq4:H4 q=some (.lst ys):=u6.same _ _ hq3;have nF5:¬F5 q:=λz=>(u6.new q z).elim nF3 λy=>by rw[hq3] at y;cases y.1
                   have r4:Reps X.K cl F5 H4 ds ys:=r3.up u6;have pr:Pres F5 H4 (L2.upd H4 q (.lst (ys++[w]))):=Pres.upd nF5 (λzs e=>by rw[hq4] at e;cases e) (λo u e=>by rw[hq4] at e;cases e);have u7:Up F1 H1 F5 H4:=(u3'.trans u4).trans u6;refine⟨ys,xs.length-(i+1),hq4,?_,by omega,rfl,hlt,hl2,hc2,F5,ys++[w],ds++[y],rest',⟨λb o e=>?_,u7.sub,λa z=>?_⟩,nF5,upd_same,?_,?_,hrest,?_⟩
                   · rw[r4.length];exact Nat.lt_of_le_of_lt (zB hdl (Nat.le_of_lt hlt)) (Nat.lt_of_le_of_lt hlen (by decide))
                   · rw[aA (nq b o e)];exact u7.same b o e
                   · rcases u7.new a z with y|⟨y1,y2⟩
                     · exact .inl y
                     · refine .inr ⟨y1,?_⟩
                       rw[aA (by rintro rfl;exact nF5 z)];exact y2
                   · exact(r4.mono pr λ_ z=>z).append (Reps.cons (rw'.mono pr λ_ z=>z) Reps.nil)
                   · rw[yY,List.length_singleton];omega
                   · rw[hout,←hcm];simp
     · have hi':i=xs.length:=by omega
       subst hi';refine .inl ⟨W1.stop F' H' pH,?_⟩;have hr:rest=[]:=by
         rw[List.drop_length] at hcm;simp only[compM] at hcm;cases hcm;rfl
       subst hr;rw[aAQ] at hout;subst hout;refine hx F' (.ref q) H' (u1.trans u2) (Res.gives ?_);unfold Res;rw[yM (by simp[isOwn])];exact⟨q,rfl,u1.same.free hq,nF,ys,hqs,r2⟩
end
section
variable{X:Cx}{cl:Nat->Addr}{XE:Nat->St->Hp->Prop}{YE:Nat->Hp->Prop}{Φ:Nat->List D->R D}{G:List D}{m fr:Bool}
theorem ok_comp{cond:Option Tx}
  (hc:X.calm=true) (hi:OkI X cl XE Φ G true k its tg iter) (Sc:CompSc X N' caps ntg scope) (hg:∀cl' C s H fp,OkG (cxComp X N' scope cl' C s H fp λ_ _=>False) cl (List.range ntg) g tg)
  (ht:∀cl' C s H fp,OkC (cxComp X N' scope cl' C s H fp λ_ _=>False) cl (λ_ _ _=>False) Φ G cond ifs) (he:∀cl' C s H fp,OkE (cxComp X N' scope cl' C s H fp λ_ _=>False) cl (λ_ _ _=>False) Φ G false elt e)
  (hs:∀x,foldedSetIterable iter X.env x=pure x):OkE X cl XE Φ G m (.comp k its caps ntg cond elt) (.ListComp e [⟨tg,iter,ifs,0⟩] scope pos):=by
 obtain⟨wi,pi,hw⟩:=hi;refine⟨_,pe_comp (tc:=tO X.K cl (λ_ _ _=>False) Φ G cond) (te:=tE X.K cl (λ_ _ _=>False) Φ G false elt) hc pi Sc (λcl' C s H fp=>(hg cl' C s H fp).1) (λcl' C s H fp=>ht cl' C s H fp) (λcl' C s H fp=>(he cl' C s H fp).pe) hs,λF σ δ H Q S h=>?_⟩;exact gZ (g:=g) hw (λF H σ v x ts Q h1 h2 h3=>(hg [] 0 X.s₀ X.H₀ []).2 F H σ v x ts Q (by rw[List.length_range];exact h1) h2 h3) S h
theorem mP{cond:Option Tx}(hN:X.N.Nodup)(hy:X.N[i]?=some y)(hx:Loc X.env.scope y)
  (hf:X.fn y=true\/X.env.scope.names.lookup y=some .local) (hsw:swapsWith (.ListComp e [⟨tg,iter,ifs,0⟩] scope pos) (some (.Name y py)) spos.line X.env=pure true)
  (hc:X.calm=true) (hi:OkI X cl XE Φ G true k its tg iter) (Sc:CompSc X N' caps ntg scope) (hg:∀cl' C s H fp,OkG (cxComp X N' scope cl' C s H fp λ_ _=>False) cl (List.range ntg) g tg)
  (ht:∀cl' C s H fp,OkC (cxComp X N' scope cl' C s H fp λ_ _=>False) cl (λ_ _ _=>False) Φ G cond ifs) (he:∀cl' C s H fp,OkE (cxComp X N' scope cl' C s H fp λ_ _=>False) cl (λ_ _ _=>False) Φ G false elt e)
  (hs:∀x,foldedSetIterable iter X.env x=pure x):∃t,PS X (.Assign [.Name y py] (.ListComp e [⟨tg,iter,ifs,0⟩] scope pos) spos) (tAsg t (gName i))/\
   ∀F σ δ H Q,Sees X.K cl F H σ δ->Post X.K cl (λc=>XE c σ) false true F H Q (ev Φ G false (.comp k its caps ntg cond elt) δ)->t σ H Q:=by
 obtain⟨wi,pi,hw⟩:=hi;refine⟨_,fG (tc:=tO X.K cl (λ_ _ _=>False) Φ G cond) (te:=tE X.K cl (λ_ _ _=>False) Φ G false elt) hN hy hx hf hsw hc pi Sc (λcl' C s H fp=>(hg cl' C s H fp).1) (λcl' C s H fp=>ht cl' C s H fp) (λcl' C s H fp=>(he cl' C s H fp).pe) hs,λF σ δ H Q S h=>?_⟩;exact gZ (g:=g) hw (λF H σ v x ts Q h1 h2 h3=>(hg [] 0 X.s₀ X.H₀ []).2 F H σ v x ts Q (by rw[List.length_range];exact h1) h2 h3) S h
structure Fit(K:PySem.W.Frag)(cl:Nat->Addr)(F₀:Addr->Prop)(H₀:Hp)(F:Addr->Prop)(H:Hp)(σ:St)(δ:Sto):Prop where
 sees:Sees K cl F H σ δ
 up:Up F₀ H₀ F H
 new:∀(i:Nat) d a,δ[i]?=some (some (true,d))->σ[i]?=some (some (.ref a))->H₀ a=none
 ds:∀(i j:Nat) d e a,i≠j->δ[i]?=some (some (true,d))->δ[j]?=some (some (true,e))->σ[i]?=some (some (.ref a))->σ[j]?≠some (some (.ref a))
section
variable{F₀ F F':Addr->Prop}{H₀ H H':Hp}{σ σ':St}{δ δ':Sto}{K:PySem.W.Frag}
theorem Fit.to(f:Fit K cl F₀ H₀ F H σ δ)(u:Up F H F' H'):Fit K cl F₀ H₀ F' H' σ δ:=⟨f.sees.up u,f.up.trans u,f.new,f.ds⟩
theorem Own.fz(h:Own K cl F H d a):H a≠none/\Rep K cl (addF F a) H d (.ref a):=by
 have pr:Pres F H H:=Pres.of_same (Same.refl H)
 cases d with
 |lst xs=>
  obtain⟨vs,e,r⟩:=h;refine⟨by rw[e];exact Option.some_ne_none _,?_⟩;simp only[Rep];exact⟨a,vs,rfl,.inr rfl,e,r.mono pr λb z=>.inl z⟩
 |dic ks ds=>
  obtain⟨kvs,e,k,r⟩:=h;refine⟨by rw[e];exact Option.some_ne_none _,?_⟩;simp only[Rep];exact⟨a,kvs,rfl,.inr rfl,e,k,r.mono pr λb z=>.inl z⟩
 |_=>exact h.elim
theorem Fit.fzD(f:Fit K cl F₀ H₀ F H σ δ)(i:Nat)(e:δ[i]?=some (some (true,d))):∃F',(∀a,F a->F' a)/\Fit K cl F₀ H₀ F' H σ (δ.set i (some (false,d))):=by
  obtain⟨a,h1,h2,h3⟩:=f.sees.ow i _ e;obtain⟨e1,r1⟩:=h3.fz;have hn:=f.new i _ a e h1;have hi:i<δ.length:=by
   by_cases hc:i<δ.length
   ·exact hc
   ·rw[aAL (by omega)] at e;cases e
  have sub:∀b,F b->addF F a b:=λb z=>.inl z;have pr:Pres F H H:=Pres.of_same (Same.refl H);have other:∀j,j≠i->(δ.set i (some (false,d)))[j]?=δ[j]?:=λj hj=>zI (zL hj);have here:(δ.set i (some (false,d)))[i]?=some (some (false,d)):=by simp[zD hi]
  have notown:∀d',(δ.set i (some (false,d)))[i]?≠some (some (true,d')):=λd' z=>by rw[here] at z;cases z
  refine⟨addF F a,sub,⟨by rw[List.length_set];exact f.sees.len,λb z=>z.elim (f.sees.trk b) λy=>(by rw[y];exact e1),λj d' z=>?_,λj d' z=>?_⟩,⟨f.up.same,λb z=>.inl (f.up.sub b z),λb z=>z.elim (f.up.new b) λy=>.inr ?_⟩,λj d' b z w=>?_,λj k d1 d2 b hjk z z' w=>?_⟩
  ·by_cases hj:j=i
   ·subst hj
    rw[here] at z;cases z;exact⟨.ref a,h1,r1⟩
   ·rw[other j hj] at z
    obtain⟨v,q1,q2⟩:=f.sees.sh j d' z;exact⟨v,q1,q2.mono pr sub⟩
  ·have hj:j≠i:=by rintro rfl;exact notown d' z
   rw[other j hj] at z;obtain⟨b,q1,q2,q3⟩:=f.sees.ow j d' z;refine⟨b,q1,λy=>y.elim q2 λy=>?_,q3.mono pr sub rfl⟩;subst y;exact f.ds i j _ d' b (zL hj) e z h1 q1
  ·rw[y];exact⟨hn,e1⟩
  ·have hj:j≠i:=by rintro rfl;exact notown d' z
   rw[other j hj] at z;exact f.new j d' b z w
  ·have hj:j≠i:=by rintro rfl;exact notown d1 z
   have hk:k≠i:=by rintro rfl;exact notown d2 z'
   rw[other j hj] at z;rw[other k hk] at z';exact f.ds j k d1 d2 b hjk z z' w
theorem Fit.frz1(f:Fit K cl F₀ H₀ F H σ δ)(i:Nat):∃F',(∀a,F a->F' a)/\Fit K cl F₀ H₀ F' H σ (frz1 δ i):=by
 unfold Py.frz1;split
 ·exact f.fzD i (by assumption)
 ·exact f.fzD i (by assumption)
 ·exact⟨F,λ_ z=>z,f⟩
theorem Fit.frz:∀(is:List Nat){F:Addr->Prop}{δ:Sto},Fit K cl F₀ H₀ F H σ δ->∃F',(∀a,F a->F' a)/\Fit K cl F₀ H₀ F' H σ (frz is δ)
 |[],F,δ,f=>⟨F,λ_ z=>z,f⟩
 |i::is,F,δ,f=>by
  obtain⟨F1,s1,f1⟩:=f.frz1 i;obtain⟨F2,s2,f2⟩:=Fit.frz is f1;exact⟨F2,λa z=>s2 a (s1 a z),f2⟩
theorem Fit.set(f:Fit K cl F₀ H₀ F H σ δ)(i:Nat)(r:Rep K cl F H d v):Fit K cl F₀ H₀ F H (σ.set i (some v)) (δ.set i (some (false,d))):=by
 have hl:=f.sees.len;have oσ:∀j,j≠i->(σ.set i (some v))[j]?=σ[j]?:=λj hj=>zI (zL hj);have oδ:∀j,j≠i->(δ.set i (some (false,d)))[j]?=δ[j]?:=λj hj=>zI (zL hj);have here:∀o,(δ.set i (some (false,d)))[i]?=some o->o=some (false,d)/\(σ.set i (some v))[i]?=some (some v):=λo z=>by
  by_cases hi:i<δ.length
  ·rw[zD hi] at z
   exact⟨(y8 z).symm,zD (by rw[hl];exact hi)⟩
  ·rw[aAL (by simpa using hi)] at z;cases z
 have notown:∀e,(δ.set i (some (false,d)))[i]?≠some (some (true,e)):=λe z=>by have:=(here _ z).1;cases this
 refine⟨⟨by simp[hl],f.sees.trk,λj e z=>?_,λj e z=>?_⟩,f.up,λj e b z w=>?_,λj k e e' b hjk z z' w=>?_⟩
 ·by_cases hj:j=i
  ·subst hj
   obtain⟨q1,q2⟩:=here _ z;cases q1;exact⟨v,q2,r⟩
  ·rw[oδ j hj] at z
   obtain⟨u,q1,q2⟩:=f.sees.sh j e z;exact⟨u,by rw[oσ j hj];exact q1,q2⟩
 ·have hj:j≠i:=by rintro rfl;exact notown e z
  rw[oδ j hj] at z;obtain⟨b,q1,q2⟩:=f.sees.ow j e z;exact⟨b,by rw[oσ j hj];exact q1,q2⟩
 ·have hj:j≠i:=by rintro rfl;exact notown e z
  rw[oδ j hj] at z;rw[oσ j hj] at w;exact f.new j e b z w
 ·have hj:j≠i:=by rintro rfl;exact notown e z
  have hk:k≠i:=by rintro rfl;exact notown e' z'
  rw[oδ j hj] at z;rw[oδ k hk] at z';rw[oσ j hj] at w;rw[oσ k hk];exact f.ds j k e e' b hjk z z' w
theorem Fit.own(f:Fit K cl F₀ H₀ F H σ δ)(i:Nat)(u:Up F H F' H')(hp:H p=none)(nF:¬F' p)(o:Own K cl F' H' d p):Fit K cl F₀ H₀ F' H' (σ.set i (some (.ref p))) (δ.set i (some (true,d))):=by
 have f':=f.to u;have hl:=f.sees.len;have oσ:∀j,j≠i->(σ.set i (some (V.ref p)))[j]?=σ[j]?:=λj hj=>zI (zL hj);have oδ:∀j,j≠i->(δ.set i (some (true,d)))[j]?=δ[j]?:=λj hj=>zI (zL hj);have here:∀o,(δ.set i (some (true,d)))[i]?=some o->o=some (true,d)/\(σ.set i (some (V.ref p)))[i]?=some (some (V.ref p)):=λo z=>by
  by_cases hi:i<δ.length
  ·rw[zD hi] at z
   exact⟨(y8 z).symm,zD (by rw[hl];exact hi)⟩
  ·rw[aAL (by simpa using hi)] at z;cases z
 have old:∀(j:Nat) e b,δ[j]?=some (some (true,e))->σ[j]?=some (some (V.ref b))->b≠p:=λj e b z w y=>by
  obtain⟨b',q1,q2,q3⟩:=f.sees.ow j e z;rw[w] at q1;have:b=b':=by simpa using q1
  subst this;rw[y] at q3;exact q3.some hp
 refine⟨⟨by simp[hl],f'.sees.trk,λj e z=>?_,λj e z=>?_⟩,f'.up,λj e b z w=>?_,λj k e e' b hjk z z' w=>?_⟩
 ·have hj:j≠i:=by rintro rfl;have:=(here _ z).1;cases this
  rw[oδ j hj] at z;obtain⟨v,q1,q2⟩:=f'.sees.sh j e z;exact⟨v,by rw[oσ j hj];exact q1,q2⟩
 ·by_cases hj:j=i
  ·subst hj
   obtain⟨q1,q2⟩:=here _ z;cases q1;exact⟨p,q2,nF,o⟩
  ·rw[oδ j hj] at z
   obtain⟨b,q1,q2⟩:=f'.sees.ow j e z;exact⟨b,by rw[oσ j hj];exact q1,q2⟩
 ·by_cases hj:j=i
  ·subst hj
   obtain⟨q1,q2⟩:=here _ z;rw[q2] at w;have:p=b:=by simpa using w
   subst this;exact f.up.same.free hp
  ·rw[oδ j hj] at z
   rw[oσ j hj] at w;exact f.new j e b z w
 ·by_cases hj:j=i
  ·subst hj
   obtain⟨q1,q2⟩:=here _ z;rw[q2] at w;have:p=b:=by simpa using w
   subst this;rw[oδ k (zL hjk)] at z';rw[oσ k (zL hjk)];exact λy=>old k e' p z' y rfl
  ·rw[oδ j hj] at z
   rw[oσ j hj] at w;by_cases hk:k=i
   ·subst hk
    obtain⟨q1,q2⟩:=here _ z';rw[q2];intro y;have:p=b:=by simpa using y
    exact old j e b z w this.symm
   ·rw[oδ k hk] at z'
    rw[oσ k hk];exact f.ds j k e e' b hjk z z' w
theorem Fit.write(f:Fit K cl F₀ H₀ F H σ δ)(i:Nat)(e:δ[i]?=some (some (true,d)))(hp:σ[i]?=some (some (.ref p)))(hd:(∃vs,o=.lst vs)\/∃kvs,o=.dK kvs)(ho:Own K cl F (L2.upd H p o) d' p):
  Fit K cl F₀ H₀ F (L2.upd H p o) σ (δ.set i (some (true,d'))):=by
 obtain⟨p',q1,q2,q3⟩:=f.sees.ow i d e;rw[hp] at q1;have:p=p':=by simpa using q1
 subst this;have hi:i<δ.length:=by
  by_cases hc:i<δ.length
  ·exact hc
  ·rw[aAL (by omega)] at e;cases e
 have pr:Pres F H (L2.upd H p o):=by
  refine Pres.upd q2 (λxs z=>?_) λo' u z=>?_
  ·rcases q3.at with⟨_,y⟩|⟨_,y⟩<;>(rw[y] at z;cases z)
  ·rcases q3.at with⟨_,y⟩|⟨_,y⟩<;>(rw[y] at z;cases z)
 have h0:=f.new i d p e hp;have oδ:∀j,j≠i->(δ.set i (some (true,d')))[j]?=δ[j]?:=λj hj=>zI (zL hj);have here:(δ.set i (some (true,d')))[i]?=some (some (true,d')):=zD hi;have nn:∀b,(L2.upd H p o b)=none->H b=none:=λb z=>by
  by_cases hb:b=p
  ·subst hb;rw[upd_same] at z;cases z
  ·rw[aA hb] at z;exact z
 refine⟨⟨by simp[f.sees.len],λb z y=>f.sees.trk b z (nn b y),λj x z=>?_,λj x z=>?_⟩,⟨λb u z=>?_,f.up.sub,λb z=>?_⟩,λj x b z w=>?_,λj k x x' b hjk z z' w=>?_⟩
 ·have hj:j≠i:=by rintro rfl;rw[here] at z;cases z
  rw[oδ j hj] at z;obtain⟨v,r1,r2⟩:=f.sees.sh j x z;exact⟨v,r1,r2.mono pr λ_ y=>y⟩
 ·by_cases hj:j=i
  ·subst hj
   rw[here] at z;cases z;exact⟨p,hp,q2,ho⟩
  ·rw[oδ j hj] at z
   obtain⟨b,r1,r2,r3⟩:=f.sees.ow j x z;refine⟨b,r1,r2,r3.mono pr (λ_ y=>y) (aA ?_)⟩;rintro rfl;exact f.ds i j d x b (zL hj) e z hp r1
 ·rw[aA (aB z h0)]
  exact f.up.same b u z
 ·rcases f.up.new b z with y|⟨y1,y2⟩
  ·exact .inl y
  ·exact .inr ⟨y1,λw=>y2 (nn b w)⟩
 ·by_cases hj:j=i
  ·subst hj
   rw[hp] at w;have:p=b:=by simpa using w
   subst this;exact h0
  ·rw[oδ j hj] at z
   exact f.new j x b z w
 ·by_cases hj:j=i
  ·subst hj
   rw[oδ k (zL hjk)] at z';exact f.ds j k d x' b hjk e z' w
  ·rw[oδ j hj] at z
   by_cases hk:k=i
   ·subst hk
    exact f.ds j k x d b hjk z e w
   ·rw[oδ k hk] at z'
    exact f.ds j k x x' b hjk z z' w
end
end
noncomputable def PostS(K:PySem.W.Frag)(cl:Nat->Addr)(XE:Nat->St->Hp->Prop)(F₀:Addr->Prop)(H₀:Hp)(D:Ends):Out->Prop
 |.nx δ=>∀F σ H,Fit K cl F₀ H₀ F H σ δ->D.nx σ H
 |.bk δ=>∀F σ H,Fit K cl F₀ H₀ F H σ δ->D.bk σ H
 |.ct δ=>∀F σ H,Fit K cl F₀ H₀ F H σ δ->D.ct σ H
 |.rt d=>∀F v H,Up F₀ H₀ F H->Rep K cl F H d v->D.rt v H
 |.xc c δ=>∀F σ H,Fit K cl F₀ H₀ F H σ δ->XE c σ H
 |.bad=>False
section
variable(X:Cx)(cl:Nat->Addr)(XE:Nat->St->Hp->Prop)(Φ:Nat->List D->R D)(G:List D)(n:Nat)
structure OkS(sm:Sm)(st:Stmt):Prop where
 ok:∃t,PS X st t/\∀F₀ H₀ F σ δ H D,Fit X.K cl F₀ H₀ F H σ δ->PostS X.K cl XE F₀ H₀ D (xec Φ G n sm δ)->t D σ H
structure OkSs(sms:List Sm)(sts:List Stmt):Prop where
 ok:∃t,PSs X sts t/\∀F₀ H₀ F σ δ H D,Fit X.K cl F₀ H₀ F H σ δ->PostS X.K cl XE F₀ H₀ D (xecs Φ G n sms δ)->t D σ H
end
section
variable{X:Cx}{cl:Nat->Addr}{XE:Nat->St->Hp->Prop}{Φ:Nat->List D->R D}{G:List D}{n:Nat}{K:PySem.W.Frag}{F₀ F F':Addr->Prop}{H₀ H H':Hp}{σ:St}{δ:Sto}{W:Ends}
theorem oks_nil:OkSs X cl XE Φ G n [] []:=⟨_,kN,λF₀ H₀ F σ δ H D f h=>by simp only[xecs] at h;exact h F σ H f⟩
theorem vX{st:Stmt}(h1:OkS X cl XE Φ G n sm st)(h2:OkSs X cl XE Φ G n sms sts):OkSs X cl XE Φ G n (sm::sms) (st::sts):=by
 obtain⟨t,p1,i1⟩:=h1;obtain⟨u,p2,i2⟩:=h2;refine⟨_,aE p1 p2,λF₀ H₀ F σ δ H D f h=>?_⟩;simp only[xecs] at h;refine i1 F₀ H₀ F σ δ H _ f ?_
 cases e:xec Φ G n sm δ with
 |nx δ'=>rw[e] at h;exact λF' σ' H' f'=>i2 F₀ H₀ F' σ' δ' H' D f' h
 |bk δ'=>rw[e] at h;exact h
 |ct δ'=>rw[e] at h;exact h
 |rt d=>rw[e] at h;exact h
 |xc c δ'=>rw[e] at h;exact h
 |bad=>rw[e] at h;exact h
theorem PostS.of_ok{α:Type}{r:R α}{k:α->Out}{P:α->Prop}(h:PostS K cl XE F₀ H₀ W (Out.of r δ k))(hk:∀a,r=.ok a->PostS K cl XE F₀ H₀ W (k a)->P a):Meet r P (λc=>∀F σ H,Fit K cl F₀ H₀ F H σ δ->XE c σ H):=by
 cases r with
 |ok a=>exact hk a rfl h
 |exc c=>exact h
 |bad=>exact h
theorem fI{e:Expr}{t:TE}(ie:∀F σ δ H Q,Sees X.K cl F H σ δ->Post X.K cl (λc=>XE c σ) m (frsh ex) F H Q (ev Φ G m ex δ)->t σ H Q)(f:Fit X.K cl F₀ H₀ F H σ δ)
  (h:PostS X.K cl XE F₀ H₀ W (Out.of (ev Φ G m ex δ) δ k)) (hQ:∀d F' v H',Up F H F' H'->Gives X.K cl m (frsh ex) F' H H' d v->PostS X.K cl XE F₀ H₀ W (k d)->Q v H'):t σ H Q:=by
 refine ie F σ δ H Q f.sees (Meet.mono (h.of_ok (P:=λd=>PostS X.K cl XE F₀ H₀ W (k d)) λa _ z=>z) (λd _ z F' v H' u g=>hQ d F' v H' u g z) λc z F' H' u=>z F' σ H' (f.to u))
theorem oks_asg(hN:X.N.Nodup)(hi:X.N[i]?=some x)(hx:Loc X.env.scope x)(hf:X.fn x=true\/X.env.scope.names.lookup x=some .local)(hs:swapsWith e (some (.Name x pos')) pos.line X.env=pure false)
  (ie:OkE X cl XE Φ G false ex e):OkS X cl XE Φ G n (.asg i ex) (.Assign [.Name x pos'] e pos):=by
 obtain⟨t,pe,ie⟩:=ie;refine⟨_,oQ hN hi hx pe hs hf,λF₀ H₀ F σ δ H D f h=>?_⟩;simp only[xec] at h;obtain⟨F1,s1,f1⟩:=f.frz (leaks false ex);refine fI (e:=e) (m:=false) ie f1 h λd F' v H' u g z=>?_;have g':Res X.K cl (frsh ex) F' H H' d v:=by unfold Gives at g;rw[yK yL] at g;exact g
 show D.nx (σ.set i (some v)) H';unfold Res at g';by_cases hc:(frsh ex&&isOwn d)=true
 ·rw[yM hc] at g'
  obtain⟨p,rfl,hp,nF,o⟩:=g';rw[hc] at z;exact z F' _ H' (f1.own i u hp nF o)
 ·rw[yK hc] at g'
  rw[Bool.not_eq_true _|>.mp hc] at z;exact z F' _ H' ((f1.to u).set i g')
theorem mQ(hfr:frsh ex=true)(ie:∃t,PS X (.Assign [.Name x pos'] e pos) (tAsg t (gName i))/\∀F σ δ H Q,Sees X.K cl F H σ δ->Post X.K cl (λc=>XE c σ) false true F H Q (ev Φ G false ex δ)->t σ H Q):
  OkS X cl XE Φ G n (.asg i ex) (.Assign [.Name x pos'] e pos):=by
 obtain⟨t,pe,ie⟩:=ie;refine⟨_,pe,λF₀ H₀ F σ δ H D f h=>?_⟩;simp only[xec] at h;obtain⟨F1,s1,f1⟩:=f.frz (leaks false ex);refine fI (ex:=ex) (e:=e) (m:=false) (λF σ δ H Q S z=>ie F σ δ H Q S (by rw[hfr] at z;exact z)) f1 h λd F' v H' u g z=>?_;have g':Res X.K cl (frsh ex) F' H H' d v:=by unfold Gives at g;rw[yK yL] at g;exact g
 show D.nx (σ.set i (some v)) H';unfold Res at g';by_cases hc:(frsh ex&&isOwn d)=true
 ·rw[yM hc] at g'
  obtain⟨p,rfl,hp,nF,o⟩:=g';rw[hc] at z;exact z F' _ H' (f1.own i u hp nF o)
 ·rw[yK hc] at g'
  rw[Bool.not_eq_true _|>.mp hc] at z;exact z F' _ H' ((f1.to u).set i g')
theorem oks_new(hN:X.N.Nodup)(hi:X.N[i]?=some x)(hx:Loc X.env.scope x)(hf:X.fn x=true\/X.env.scope.names.lookup x=some .local)(hs:swapsWith (.Dict [] [] p) (some (.Name x pos')) pos.line X.env=pure false):
  OkS X cl XE Φ G n (.new i) (.Assign [.Name x pos'] (.Dict [] [] p) pos):=by
 refine⟨_,oQ hN hi hx bI hs hf,λF₀ H₀ F σ δ H D f h=>?_⟩;simp only[xec] at h;intro a ha;exact h F _ _ (f.own i (d:=.dic [] []) (Up.alloc ha) ha (f.sees.trk.fresh ha) ⟨[],upd_same,rfl,Reps.nil⟩)
theorem oks_ret(ie:OkE X cl XE Φ G false ex e):OkS X cl XE Φ G n (.ret ex) (.Return (some e) pos):=by
 obtain⟨t,pe,ie⟩:=ie;refine⟨_,cP pe,λF₀ H₀ F σ δ H D f h=>?_⟩;simp only[xec] at h;obtain⟨F1,s1,f1⟩:=f.frz (leaks false ex);refine fI (e:=e) (m:=false) ie f1 h λd F' v H' u g z=>?_;have g':Res X.K cl (frsh ex) F' H H' d v:=by unfold Gives at g;rw[yK yL] at g;exact g
 obtain⟨F2,u2,_,rp⟩:=g'.keep u;exact z F2 v H' (f1.up.trans u2) rp
theorem oks_if{sa sb:List Sm}(ic:OkT X cl XE Φ G tx c)(ia:OkSs X cl XE Φ G n sa a)(ib:OkSs X cl XE Φ G n sb b):OkS X cl XE Φ G n (.ite tx sa sb) (.If c a b pos):=by
 obtain⟨tc,pc,ic⟩:=ic;obtain⟨ta,pa,ia⟩:=ia;obtain⟨tb,pb,ib⟩:=ib;refine⟨_,uP pc pa pb,λF₀ H₀ F σ δ H D f h=>?_⟩;simp only[xec] at h;obtain⟨F1,s1,f1⟩:=f.frz (leaksT tx);refine ic F1 σ _ H _ f1.sees (Meet.mono (h.of_ok (P:=λt=>PostS X.K cl XE F₀ H₀ D (if t then xecs Φ G n sa (Py.frz (leaksT tx) δ) else xecs Φ G n sb (Py.frz (leaksT tx) δ))) λa _ z=>z) (λt _ z F' H' u=>?_) λc z F' H' u=>z F' σ H' (f1.to u))
 cases t with
 |true=>rw[yM rfl] at z⊢;exact ia F₀ H₀ F' σ _ H' D (f1.to u) z
 |false=>rw[yK yL] at z⊢;exact ib F₀ H₀ F' σ _ H' D (f1.to u) z
theorem sZ{st:Stmt}(h:PS X st (tRaise XE c)):OkS X cl XE Φ G n (.rai c) st:=⟨_,h,λF₀ H₀ F σ δ H D f z=>by simp only[xec] at z;exact z F σ H f⟩
theorem oks_app(hN:X.N[i]?=some x)(hv:Vis X.env.scope x)(hd:(x==("__debug__":Str))=false)(hcd:(x==("__classdict__":Str))=false)
  (hbase:attributeBase (.Name x p) "append" X.env (eval (.Name x p) X.env)=eval (.Name x p) X.env) (hline:(apos.endLine==cpos.line)=true) (hs:starEach [e] X.env=[(false,eval e X.env)])
  (hsw:swapsWith (.Call (.Attribute (.Name x p) "append" apos) [e] [] cpos) none pos.line X.env=pure false)
  (ie:OkE X cl XE Φ G false ex e):OkS X cl XE Φ G n (.app i ex) (.Expr (.Call (.Attribute (.Name x p) "append" apos) [e] [] cpos) pos):=by
 obtain⟨t,pe,ie⟩:=ie;have hs':starEach (e::[]) X.env=(false,eval e X.env)::starEach [] X.env:=hs;refine⟨_,qH (pe_bm PySem.F.plainAttrs_list PySem.F.slot_list_append PySem.F.type_list_append jN (gM hN hv hd hcd) (pa_cons pe pa_nil hs') hbase (by rw[hs];rfl) hline hs' rfl) hsw,λF₀ H₀ F σ δ H D f h=>?_⟩;simp only[xec] at h;obtain⟨F1,s1,f1⟩:=f.frz (leaks false ex);generalize hδ:Py.frz (leaks false ex) δ=δ1 at h f1;by_cases ho:ownL δ1 i=true
 ·rw[yM ho] at h
  obtain⟨xs,e0⟩:∃xs,δ1[i]?=some (some (true,.lst xs)):=by
   unfold ownL at ho;split at ho
   ·rename_i xs e;exact⟨xs,e⟩
   ·cases ho
  obtain⟨a,q1,q2,q3⟩:=f1.sees.ow i _ e0;obtain⟨vs0,w1,w2⟩:=id q3;refine⟨.ref a,q1,.inl ⟨rfl,vs0,SqL.of w1⟩,?_⟩;refine fI (e:=e) (m:=false) ie f1 h λd F' v H' u g z=>?_;have g':Res X.K cl (frsh ex) F' H H' d v:=by unfold Gives at g;rw[yK yL] at g;exact g
  obtain⟨F2,u2,sub2,rp⟩:=g'.keep u;have f2:=f1.to u2;obtain⟨a',q1',q2',vs,w1,w2⟩:=f2.sees.ow i _ e0;rw[q1] at q1';have:a=a':=by simpa using q1'
  subst this;simp only[appD,e0] at z;by_cases hl:xs.length<LIM
  ·rw[yM hl] at z
   refine⟨a,vs,v,rfl,rfl,w1,by rw[w2.length];exact zH hl (by decide),?_⟩;have pr:Pres F2 H' (L2.upd H' a (.lst (vs++[v]))):=Pres.upd q2' (λys y=>by rw[w1] at y;cases y) λo u y=>by rw[w1] at y;cases y
   exact z F2 σ _ (f2.write i e0 q1 (.inl ⟨_,rfl⟩) ⟨_,upd_same,(w2.mono pr λ_ y=>y).append (Reps.cons (rp.mono pr λ_ y=>y) Reps.nil)⟩)
  ·rw[yK hl] at z;exact z.elim
 ·rw[yK ho] at h;exact h.elim
end
section
variable{X:Cx}{cl:Nat->Addr}{XE:Nat->St->Hp->Prop}{Φ:Nat->List D->R D}{G:List D}{n:Nat}{K:PySem.W.Frag}{F₀ F F':Addr->Prop}{H₀ H H':Hp}{σ:St}{δ:Sto}{W:Ends}
theorem ixN_of(h:ixD n j=some k):ixN n j=some k:=by
 unfold ixD at h;unfold ixN;by_cases h0:0<=j
 ·rw[yM h0] at h⊢
  exact h
 ·rw[yK h0] at h⊢
  exact h
theorem oks_put(hN:X.N[i]?=some x)(hv:Vis X.env.scope x)(hd:(x==("__debug__":Str))=false)(hcd:(x==("__classdict__":Str))=false)
  (hsw:swapsWithSole [.Subscript (.Name x p) ie ps] e pos.line X.env=pure false) (hw:swappedStores [.Subscript (.Name x p) ie ps] e X.env=pure none) (h1:(assignEach [.Subscript (.Name x p) ie ps] X.env).map (·.2)=[assign (.Subscript (.Name x p) ie ps) X.env])
  (ha:∀v,assign (.Subscript (.Name x p) ie ps) X.env v=(do
   let ov←holding [v] (eval (.Name x p) X.env)
   let iv←holding [v,ov] (eval ie X.env)
   standAt ps
   holding [v,ov,iv] (setItem ov iv v)
   release [v,ov,iv] []))
  (i1:OkE X cl XE Φ G false ex e) (i2:OkE X cl XE Φ G true ix ie):OkS X cl XE Φ G n (.put i ix ex) (.Assign [.Subscript (.Name x p) ie ps] e pos):=by
 obtain⟨t,pe,i1⟩:=i1;obtain⟨u,pi,i2⟩:=i2;refine⟨_,kO pe (uQ (gM hN hv hd hcd) pi mH ha) hsw hw h1,λF₀ H₀ F σ δ H W f h=>?_⟩;simp only[xec] at h;obtain⟨F1,s1,f1⟩:=f.frz (leaks false ex++leaks true ix);generalize hδ:Py.frz (leaks false ex++leaks true ix) δ=δ1 at h f1;by_cases ho:ownL δ1 i=true
 ·rw[yM ho] at h
  obtain⟨xs,e0⟩:∃xs,δ1[i]?=some (some (true,.lst xs)):=by
   unfold ownL at ho;split at ho
   ·rename_i xs e;exact⟨xs,e⟩
   ·cases ho
  refine fI (e:=e) (m:=false) i1 f1 h λd F' v H' uu g z=>?_;have g':Res X.K cl (frsh ex) F' H H' d v:=by unfold Gives at g;rw[yK yL] at g;exact g
  obtain⟨F2,u2,sub2,rp⟩:=g'.keep uu;have f2:=f1.to u2;obtain⟨a,q1,q2,vs0,w01,w02⟩:=f2.sees.ow i _ e0;refine⟨.ref a,q1,?_⟩;refine fI (e:=ie) (m:=true) i2 f2 z λk F3 y H3 u3 g3 z3=>?_;have f3:=f2.to u3;obtain⟨a',q1',q2',vs,w1,w2⟩:=f3.sees.ow i _ e0;rw[q1] at q1';have:a=a':=by simpa using q1'
  subst this
  cases k with
  |int j=>
   simp only[putD,e0] at z3
   cases hj:ixD xs.length j with
   |none=>rw[hj] at z3;exact z3.elim
   |some m=>
    rw[hj] at z3;rw[g3.got.int];refine⟨a,vs,j,m,rfl,rfl,w1,ixN_of (by rw[w2.length];exact hj),?_⟩;have pr:Pres F3 H3 (L2.upd H3 a (.lst (vs.set m v))):=Pres.upd q2' (λys y=>by rw[w1] at y;cases y) λo u y=>by rw[w1] at y;cases y
    exact z3 F3 σ _ (f3.write i e0 q1 (.inl ⟨_,rfl⟩) ⟨_,upd_same,(w2.mono pr λ_ y=>y).set m ((rp.up u3).mono pr λ_ y=>y)⟩)
  |_=>simp only[putD,e0] at z3<;>exact z3.elim
 ·rw[yK ho] at h;exact h.elim
theorem putK_of(rv:Rep K cl F H d v):∀{ks:List Int}{ds:List D}{kvs:List (Key×V)},kvs.map (·.1)=ks.map Sum.inl->Reps K cl F H ds (kvs.map (·.2))->
  (j∈ks->(putK kvs (Sum.inl j:Key) v).map (·.1)=ks.map Sum.inl/\Reps K cl F H (repD ks ds j d) ((putK kvs (Sum.inl j:Key) v).map (·.2)))/\
  (j∉ks->(putK kvs (Sum.inl j:Key) v).map (·.1)=(ks++[j]).map Sum.inl/\Reps K cl F H (ds++[d]) ((putK kvs (Sum.inl j:Key) v).map (·.2))):=by
 intro ks ds kvs hk r;have hany:(kvs.any λkv=>decide (kv.1=(Sum.inl j:Key)))=decide (j∈ks):=by
  clear r
  induction kvs generalizing ks with
  |nil=>cases ks with|nil=>rfl|cons _ _=>simp at hk
  |cons kv kvs ih=>
   cases ks with
   |nil=>simp at hk
   |cons k ks=>
    simp only[yQ,List.cons.injEq] at hk;rw[List.any_cons,ih hk.2,hk.1];by_cases e:k=j
    ·subst e;simp
    ·have e':¬(Sum.inl k:Key)=Sum.inl j:=λz=>e (Sum.inl.inj z)
     simp[e,e',zL e]
 refine⟨λhj=>?_,λhj=>?_⟩
 ·unfold putK
  rw[hany,yM (zT hj)];clear hany hj
  induction kvs generalizing ks ds with
  |nil=>
   cases ks with
   |nil=>cases ds with|nil=>exact⟨rfl,Reps.nil⟩|cons _ _=>exact⟨rfl,Reps.nil⟩
   |cons _ _=>simp at hk
  |cons kv kvs ih=>
   cases ks with
   |nil=>simp at hk
   |cons k ks=>
    simp only[yQ,List.cons.injEq] at hk
    cases ds with
    |nil=>have:=r.length;simp at this
    |cons d0 ds=>
     obtain⟨v0,r0,z,a1,a2⟩:=r.cons_inv;have z':kv.2=v0/\kvs.map (·.2)=r0:=by simpa using z
     obtain⟨rfl,rfl⟩:=z';obtain⟨ih1,ih2⟩:=ih hk.2 a2;by_cases e:k=j
     ·have e':kv.1=(Sum.inl j:Key):=by rw[hk.1,e]
      simp only[yQ,yM e',repD,yM e];exact⟨by rw[ih1,hk.1],Reps.cons rv ih2⟩
     ·have e':¬kv.1=(Sum.inl j:Key):=by rw[hk.1];exact λz=>e (Sum.inl.inj z)
      simp only[yQ,yK e',repD,yK e];exact⟨by rw[ih1,hk.1],Reps.cons a1 ih2⟩
 ·unfold putK
  rw[hany,yK (by simpa using hj)];rw[zW,zW,zW,hk];exact⟨rfl,r.append (Reps.cons rv Reps.nil)⟩
theorem vY(hu:X.A.units+1<cLine)(hN:X.N[i]?=some x)(hv:Vis X.env.scope x)(hd:(x==("__debug__":Str))=false)(hcd:(x==("__classdict__":Str))=false)
  (hs:swapsWith e (some (.Subscript (.Name x p) ie ps)) pos.line X.env=pure false) (i1:OkE X cl XE Φ G false ex e) (i2:OkE X cl XE Φ G true ix ie):OkS X cl XE Φ G n (.dput i ix ex) (.Assign [.Subscript (.Name x p) ie ps] e pos):=by
 obtain⟨t,pe,i1⟩:=i1;obtain⟨u,pi,i2⟩:=i2;refine⟨_,ps_dput hu (gM hN hv hd hcd) pi pe hs,λF₀ H₀ F σ δ H W f h=>?_⟩;simp only[xec] at h;obtain⟨F1,s1,f1⟩:=f.frz (leaks false ex++leaks true ix);generalize hδ:Py.frz (leaks false ex++leaks true ix) δ=δ1 at h f1;by_cases ho:ownM δ1 i=true
 ·rw[yM ho] at h
  obtain⟨ks,ds,e0⟩:∃ks ds,δ1[i]?=some (some (true,.dic ks ds)):=by
   unfold ownM at ho;split at ho
   ·rename_i ks ds e;exact⟨ks,ds,e⟩
   ·cases ho
  refine fI (e:=e) (m:=false) i1 f1 h λd F' v H' uu g z=>?_;have g':Res X.K cl (frsh ex) F' H H' d v:=by unfold Gives at g;rw[yK yL] at g;exact g
  obtain⟨F2,u2,sub2,rp⟩:=g'.keep uu;have f2:=f1.to u2;obtain⟨a,q1,q2,kv0,w01,w02,w03⟩:=f2.sees.ow i _ e0;refine⟨.ref a,q1,?_⟩;refine fI (e:=ie) (m:=true) i2 f2 z λk F3 y H3 u3 g3 z3=>?_;have f3:=f2.to u3;obtain⟨a',q1',q2',kvs,w1,w2,w3⟩:=f3.sees.ow i _ e0;rw[q1] at q1';have:a=a':=by simpa using q1'
  subst this
  cases k with
  |int j=>
   simp only[dputD,e0] at z3;by_cases hl:ks.length<LIM
   ·rw[yM hl] at z3
    rw[g3.got.int];have hkl:kvs.length=ks.length:=by have:=congrArg List.length w2;simpa using this
    refine⟨a,_,rfl,DPut.k (k:=Sum.inl j) w1 (by rw[hkl];exact zH hl (by decide)),?_⟩;have pr:Pres F3 H3 (L2.upd H3 a (.dK (putK kvs (Sum.inl j) v))):=Pres.upd q2' (λys y=>by rw[w1] at y;cases y) λo u y=>by rw[w1] at y;cases y
    have rv:=(rp.up u3).mono (F':=F3) pr λ_ y=>y;have pk:=putK_of (j:=j) rv w2 (w3.mono (F':=F3) pr λ_ y=>y);by_cases hj:j∈ks
    ·rw[yM hj] at z3
     exact z3 F3 σ _ (f3.write i e0 q1 (.inr ⟨_,rfl⟩) ⟨_,upd_same,(pk.1 hj).1,(pk.1 hj).2⟩)
    ·rw[yK hj] at z3
     exact z3 F3 σ _ (f3.write i e0 q1 (.inr ⟨_,rfl⟩) ⟨_,upd_same,(pk.2 hj).1,(pk.2 hj).2⟩)
   ·rw[yK hl] at z3;exact z3.elim
  |_=>simp only[dputD,e0] at z3<;>exact z3.elim
 ·rw[yK ho] at h;exact h.elim
theorem Fit.rebase(f:Fit K cl F₀ H₀ F H σ δ):∃Hm,Fit K cl F Hm F H σ δ/\∀F' H',Up F Hm F' H'->Up F₀ H₀ F' H'/\Pres F H H'/\(∀a,F a->F' a)/\∀σ' δ',Fit K cl F Hm F' H' σ' δ'->Fit K cl F₀ H₀ F' H' σ' δ':=by
 classical
 let mine:Addr->Prop:=λa=>∃(i:Nat)(d:D),δ[i]?=some (some (true,d))/\σ[i]?=some (some (.ref a))
 let Hm:Hp:=λa=>if mine a then none else H a
 have h1:∀a,mine a->Hm a=none:=λa h=>yM h;have h2:∀a,¬mine a->Hm a=H a:=λa h=>yK h;have sub:∀a o,Hm a=some o->H a=some o:=λa o e=>by
  by_cases hm:mine a
  ·rw[h1 a hm] at e;cases e
  ·rw[h2 a hm] at e;exact e
 have oldN:∀a o,H₀ a=some o->¬mine a:=λa o e ⟨i,d,e1,e2⟩=>by rw[f.new i d a e1 e2] at e;cases e
 have old:∀a o,H₀ a=some o->Hm a=some o:=λa o e=>by rw[h2 a (oldN a o e)];exact f.up.same a o e
 have nF:∀a,F a->¬mine a:=λa fa ⟨i,d,e1,e2⟩=>by
  obtain⟨a',q1,q2,_⟩:=f.sees.ow i d e1;rw[e2] at q1;have:a=a':=by simpa using q1
  subst this;exact q2 fa
 have at':∀a,mine a->(∃vs,H a=some (.lst vs))\/∃kvs,H a=some (.dK kvs):=λa ⟨i,d,e1,e2⟩=>by
  obtain⟨a',q1,q2,o⟩:=f.sees.ow i d e1;rw[e2] at q1;have:a=a':=by simpa using q1
  subst this;exact o.at
 refine⟨Hm,⟨f.sees,⟨sub,λ_ h=>h,λ_ h=>.inl h⟩,λi d a e1 e2=>h1 a ⟨i,d,e1,e2⟩,f.ds⟩,λF' H' u=>?_⟩;have up:Up F₀ H₀ F' H':=by
  refine⟨λa o e=>u.same a o (old a o e),λa h=>u.sub a (f.up.sub a h),λa h=>?_⟩;rcases u.new a h with z|⟨z1,z2⟩
  ·rcases f.up.new a z with y|⟨y1,y2⟩
   ·exact .inl y
   ·refine .inr ⟨y1,λw=>?_⟩
    cases q:H a with
    |none=>exact y2 q
    |some o=>
     have:=u.same a o (by rw[h2 a (nF a z)];exact q);rw[w] at this;cases this
  ·refine .inr ⟨?_,z2⟩
   cases q:H₀ a with
   |none=>rfl
   |some o=>rw[old a o q] at z1;cases z1
 refine⟨up,⟨λa o fa e=>u.same a o (by rw[h2 a (nF a fa)];exact e),λa xs e=>u.same a _ (by rw[h2 a λm=>(at' a m).elim (λ⟨_,z⟩=>by rw[e] at z;cases z) λ⟨_,z⟩=>by rw[e] at z;cases z];exact e),
  λa o w e=>u.same a _ (by rw[h2 a λm=>(at' a m).elim (λ⟨_,z⟩=>by rw[e] at z;cases z) λ⟨_,z⟩=>by rw[e] at z;cases z];exact e)⟩,u.sub,λσ' δ' g=>⟨g.sees,up,λi d a e1 e2=>?_,g.ds⟩⟩
 have z:=g.new i d a e1 e2
 cases q:H₀ a with
 |none=>rfl
 |some o=>rw[old a o q] at z;cases z
theorem Fit.sets:∀(is:List Nat){ds:List D}{vs:List V}{σ:St}{δ:Sto},Fit K cl F₀ H₀ F H σ δ->Reps K cl F H ds vs->Fit K cl F₀ H₀ F H (setsV σ is vs) (sets δ is ds)
 |[],_,_,_,_,f,_=>by simpa[setsV,Py.sets] using f
 |i::is,[],vs,_,_,f,r=>by rw[r.nil_inv];simpa[setsV,Py.sets] using f
 |i::is,d::ds,vs,σ,δ,f,r=>by
  obtain⟨v,r',rfl,h1,h2⟩:=r.cons_inv;simp only[setsV,Py.sets];exact Fit.sets is (f.set i h1) h2
end
section
variable{X:Cx}{cl:Nat->Addr}{XE:Nat->St->Hp->Prop}{Φ:Nat->List D->R D}{G:List D}{n:Nat}{K:PySem.W.Frag}{F₀ F F':Addr->Prop}{H₀ H H':Hp}{σ:St}{δ:Sto}{W:Ends}
theorem PS.nox{st:Stmt}(h:PS X.nox st t):PS X st t:=λpins s σ H D I hw=>
 z8 (h pins s σ H D (I.wish _) hw) (λ_ _ q=>q.unwish) λ_ _ z=>False.elim z
theorem vZ(hc:X.calm=true)(hi:OkI X.nox cl (λ_ _ _=>False) Φ G false k its tg iter)(hg:OkG X.nox cl tgs g tg)
  (hb:OkSs X.nox cl (λ_ _ _=>False) Φ G n body b) (hs:∀x,foldedSetIterable iter X.env x=pure x):OkS X cl XE Φ G n (.loop k its tgs body) (.For tg iter b [] pos):=by
 obtain⟨wi,pi,hw⟩:=hi;obtain⟨pg,hgq⟩:=hg;obtain⟨tb,pb,ib⟩:=hb;refine⟨_,PS.nox (uS (X:=X.nox) PassesOwn.never hc pi pg pb hs),λF₀ H₀ F σ δ H W f h=>?_⟩;simp only[xec] at h;obtain⟨F1,s1,f1⟩:=f.frz (leakss false its);generalize hδ:Py.frz (leakss false its) δ=δ1 at h f1;refine hw F1 σ δ1 H _ f1.sees ?_
 cases e:(evs Φ G false its δ1).bind (itemsD k) with
 |bad=>rw[e] at h;exact h
 |exc c=>rw[e] at h;exact(show False from h).elim
 |ok xs=>
  rw[e] at h;have h:PostS X.K cl XE F₀ H₀ W (forM (λx δ'=>match spread tgs.length x with
    |none=>.bad
    |some ts=>xecs Φ G n body (sets δ' tgs ts)) xs δ1):=h
  generalize hfb:(λx δ'=>match spread tgs.length x with
    |none=>Out.bad
    |some ts=>xecs Φ G n body (sets δ' tgs ts))=fb at h
  intro F2 H2 J P u2 W2 p2;refine⟨λi m σ' H'=>m=xs.length-i/\i<=xs.length/\∃F' δ',Fit X.K cl F₀ H₀ F' H' σ' δ'/\P F' H'/\PostS X.K cl XE F₀ H₀ W (forM fb (xs.drop i) δ'),⟨_,rfl,Nat.zero_le _,F2,δ1,f1.to u2,p2,by simpa using h⟩,?_⟩;rintro i m σ' H' ⟨rfl,hi,F',δ',f',pH,h'⟩;by_cases hlt:i<xs.length
  ·refine .inr ?_
   obtain⟨go,yl⟩:=W2.go F' H' i xs[i] pH (by simp[hlt]);refine⟨go,λσ3 H3=>∃F3 δ3,Fit X.K cl F₀ H₀ F3 H3 σ3 δ3/\P F3 H3/\PostS X.K cl XE F₀ H₀ W (forM fb (xs.drop (i+1)) δ3),λσ3 H3 z=>⟨xs.length-(i+1),by omega,rfl,hlt,z⟩,λv H3 hy=>?_⟩;obtain⟨u3,rv⟩:=yl v H3 hy;have f3:=f'.to u3;have p3:P F' H3:=W2.st F' H' F' H3 pH (by unfold Stb;rw[yK yL];exact Pres.of_same u3.same) λ_ z=>z;rw[z9 hlt,Py.forM.eq_2] at h'
   cases hsp:spread tgs.length xs[i] with
   |none=>
    have:fb xs[i] δ'=.bad:=by rw[←hfb];simp only[hsp]
    rw[this] at h';exact h'.elim
   |some ts=>
    have hx:fb xs[i] δ'=xecs Φ G n body (sets δ' tgs ts):=by rw[←hfb];simp only[hsp]
    rw[hx] at h';refine hgq F' H3 σ' v xs[i] ts _ hsp rv λvs rvs=>?_;have f4:=f3.sets tgs rvs;obtain⟨Hm,f5,back⟩:=f4.rebase;refine ib F' Hm F' _ _ H3 _ f5 ?_
    cases e2:xecs Φ G n body (sets δ' tgs ts) with
    |nx δ6=>
     rw[e2] at h';intro F6 σ6 H6 f6;obtain⟨up,pr,sb,bk⟩:=back F6 H6 f6.up;exact⟨F6,δ6,bk σ6 δ6 f6,W2.st F' H3 F6 H6 p3 (by unfold Stb;rw[yK yL];exact pr) sb,h'⟩
    |ct δ6=>
     rw[e2] at h';intro F6 σ6 H6 f6;obtain⟨up,pr,sb,bk⟩:=back F6 H6 f6.up;exact⟨F6,δ6,bk σ6 δ6 f6,W2.st F' H3 F6 H6 p3 (by unfold Stb;rw[yK yL];exact pr) sb,h'⟩
    |bk δ6=>
     rw[e2] at h';intro F6 σ6 H6 f6;obtain⟨up,pr,sb,bk⟩:=back F6 H6 f6.up;exact h' F6 σ6 H6 (bk σ6 δ6 f6)
    |rt d=>
     rw[e2] at h';intro F6 v6 H6 u6 r6;exact h' F6 v6 H6 (back F6 H6 u6).1 r6
    |xc c δ6=>rw[e2] at h';exact(show False from h').elim
    |bad=>rw[e2] at h';exact h'
  ·have ei:i=xs.length:=by omega
   subst ei;refine .inl ⟨W2.stop F' H' pH,?_⟩;rw[List.drop_length,Py.forM.eq_1] at h';exact h' F' σ' H' f'
theorem tD(hi:OkT X.nox cl (λ_ _ _=>False) Φ G tx c)(hb:OkSs X.nox cl (λ_ _ _=>False) Φ G n body b):OkS X cl XE Φ G n (.whl tx body) (.While c b [] pos):=by
 obtain⟨tc,pc,ic⟩:=hi;obtain⟨tb,pb,ib⟩:=hb;refine⟨_,PS.nox (mC (X:=X.nox) PassesOwn.never pc pb),λF₀ H₀ F σ δ H W f h=>?_⟩;simp only[xec] at h;refine⟨λm σ' H'=>∃F' δ',Fit X.K cl F₀ H₀ F' H' σ' δ'/\PostS X.K cl XE F₀ H₀ W (whlM (evT Φ G tx) (Py.frz (leaksT tx)) (xecs Φ G n body) m δ'),⟨n,F,δ,f,h⟩,?_⟩;rintro m σ' H' ⟨F',δ',f',h'⟩
 cases m with
 |zero=>exact h'.elim
 |succ m=>
  obtain⟨F1,s1,f1⟩:=f'.frz (leaksT tx);simp only[whlM] at h';refine ic F1 σ' _ H' _ f1.sees ?_
  cases e:evT Φ G tx (Py.frz (leaksT tx) δ') with
  |bad=>rw[e] at h';exact h'
  |exc c=>rw[e] at h';exact(show False from h').elim
  |ok t=>
   rw[e] at h';intro F2 H2 u2
   cases t with
   |true=>
    rw[yM rfl];refine⟨λσ3 H3=>∃F3 δ3,Fit X.K cl F₀ H₀ F3 H3 σ3 δ3/\PostS X.K cl XE F₀ H₀ W (whlM (evT Φ G tx) (Py.frz (leaksT tx)) (xecs Φ G n body) m δ3),λσ3 H3 z=>⟨m,Nat.lt_succ_self m,z⟩,?_⟩;refine ib F₀ H₀ F2 σ' _ H2 _ (f1.to u2) ?_
    cases e2:xecs Φ G n body (Py.frz (leaksT tx) δ') with
    |nx δ6=>rw[e2] at h';exact λF6 σ6 H6 f6=>⟨F6,δ6,f6,h'⟩
    |ct δ6=>rw[e2] at h';exact λF6 σ6 H6 f6=>⟨F6,δ6,f6,h'⟩
    |bk δ6=>rw[e2] at h';exact λF6 σ6 H6 f6=>h' F6 σ6 H6 f6
    |rt d=>rw[e2] at h';exact h'
    |xc c δ6=>rw[e2] at h';exact(show False from h').elim
    |bad=>rw[e2] at h';exact h'
   |false=>
    rw[yK yL];exact h' F2 σ' H2 (f1.to u2)
end
section
variable{P:Program}{w:World}{K:PySem.W.Frag}{mg:Str->Option Value}{base:Heap}{cl:Nat->Addr}{Pg:Prog}
theorem mR{Fn:Py.Fn}(hf:Pg.fns[f]?=some Fn)(h:spOf K cl (Phi Pg k) f vs H Q E):vs.length=Fn.np:=by
 obtain⟨F,ds,tr,r,z⟩:=h;rw[r.length]
 cases k with
 |zero=>exact z.elim
 |succ k=>
  simp only[Phi,hf] at z;by_cases hl:ds.length=Fn.np
  ·exact hl
  ·rw[yK hl] at z;exact z.elim
theorem tF{Fn:Py.Fn}(tr:Trk F H)(r:Reps K cl F H ds vs)(hl:ds.length=Fn.np)(hn:Fn.ns=N.length)(hp:Fn.np<=Fn.ns):Fit K cl F H F H (start N vs) (startD Fn ds):=by
 have hvl:=r.length;have get:∀(i:Nat)(o:Bool×D),(startD Fn ds)[i]?=some (some o)->∃d,ds[i]?=some d/\o=(false,d):=λi o z=>by
  unfold startD at z;by_cases hi:i<ds.length
  ·rw[zG (by simpa using hi),zE] at z
   cases e:ds[i]? with
   |none=>rw[e] at z;cases z
   |some d=>rw[e] at z;cases z;exact⟨d,rfl,rfl⟩
  ·rw[zF (by simpa using hi),List.getElem?_replicate] at z
   split at z<;>cases z
 refine⟨⟨?_,tr,λi d z=>?_,λi d z=>?_⟩,Up.refl F H,λi d a z _=>?_,λi j d e a _ z _ _=>?_⟩
 ·unfold start startD
  rw[yY,yY,yI,yI,List.length_replicate,List.length_replicate];omega
 ·obtain⟨d',e1,e2⟩:=get i _ z
  cases e2;obtain⟨v,e3,rv⟩:=r.get e1;refine⟨v,?_,rv⟩;unfold start;rw[zG (by
   have:=(List.getElem?_eq_some_iff.mp e3).1;simpa using this),zE,e3]
  rfl
 ·obtain⟨d',_,e2⟩:=get i _ z;cases e2
 ·obtain⟨d',_,e2⟩:=get i _ z;cases e2
 ·obtain⟨d',_,e2⟩:=get i _ z;cases e2
noncomputable abbrev cxE(P:Program)(w:World)(K:PySem.W.Frag)(mg:Str->Option Value)(base:Heap)(N:List Str)(qual:Str)(scope:Scope)(f:Addr)(cd:Value)(A:Around)(outer:List Env)(s:Shared)(H:Hp)(E:XK):Cx:=
 cxOf (CXE P w) P w K mg base N qual scope f cd A outer s H E
theorem v3{st:Stmt}{Fn:Py.Fn}(F:Fun K x qual st fa fd)(S:FnScope N ps (defScope st))(hf:Pg.fns[f]?=some Fn)(hnp:Fn.np=ps.length)(hns:Fn.ns=N.length)
  (hb:∀(cd:Value)(A:Around)(outer:List Env)(s:Shared)(H:Hp)(E:XK),Room k (A.deeper (envOfC qual (defScope st) s.heap.objs.size fa cd))->
   OkSs (cxE P w K mg base N qual (defScope st) fa cd A outer s H E) cl (λc _ H'=>E (.ref (cl c)) none H') (Phi Pg j) Pg.gls 1000 Fn.body (defBody st)):
  FnOk P w K mg base (CXE P w) (k+1) fa fd ps (spOf K cl (Phi Pg (j+1)) f):=by
 obtain⟨oc,od,kV,doc,pm,an,cdv,ct,osl,rfl,lk,hcd⟩:=F.ex;refine fn_of lk hcd S (λvs H Q E h=>by rw[mR hf h,hnp]) λA outer s H vs Q E hr h=>?_;have hvl:=mR hf h;obtain⟨F0,ds,tr,r,z⟩:=h;obtain⟨t,pt,it⟩:=hb cdv A outer s H E hr;have hl:ds.length=Fn.np:=by rw[←r.length];exact hvl
 have hle:Fn.np<=Fn.ns:=by
  rw[hnp,hns];have:=congrArg List.length S.pre;rw[zO] at this;omega
 refine⟨t,pt,it F0 H F0 (start N vs) (startD Fn ds) H _ (tF tr r hl hns hle) ?_⟩;simp only[Phi,hf,yM hl] at z
 cases e:xecs (Phi Pg j) Pg.gls 1000 Fn.body (startD Fn ds) with
 |nx δ=>rw[e] at z;exact λF' σ' H' f'=>z F' .non H' f'.up (by simp[Rep])
 |rt d=>rw[e] at z;exact λF' v H' u rp=>z F' v H' u rp
 |xc c δ=>rw[e] at z;exact λF' σ' H' f'=>z F' H' f'.up
 |bk δ=>rw[e] at z;exact z.elim
 |ct δ=>rw[e] at z;exact z.elim
 |bad=>rw[e] at z;exact z.elim
theorem v4:FnOk P w K mg base (CXE P w) k fa fd ps (spOf K cl (Phi Pg 0) f):=
 ⟨λvs H Q E ⟨F,ds,_,_,z⟩=>z.elim,λA outer s H args us vs Q E _ _ _ _ ⟨F,ds,_,_,z⟩=>z.elim⟩
end
end L2.Snd
namespace L2
open PySem PySem.Spec PyProof.Rows
theorem tG{P:Program}{w:World}{K:PySem.W.Frag}{mg mb:Str->Option Value}{CX:CXT}{k:Nat}{fa a:Addr}{fd:FuncData}{x:Str}{sp:Sp}{s₁:Shared}{vs:List Value}{ns:List Int}
  (KX:K.In s₁.heap) (hns:s₁.heap.Ns mainGlobals mg) (hb:s₁.heap.Ns builtinsNs mb) (hbb:∀x:Str,x≠"__name__"->mb x=bootBuiltins x) (hlim:s₁.heap.NoLimit) (hg:s₁.gens= #[])
  (ha:s₁.heap.get? a=some {cls:=.type "list",data:=.seq vs.toArray}) (hi:IntsAre vs ns) (hl:ns.length<=sizeLine) (hr:Room k callerA)
  (F:∀base:Heap,K.In base->base.Ns mainGlobals mg->(∀b o,s₁.heap.get? b=some o->(∀its n,o.data≠.seq its n)->base.get? b=some o)->FnOk P w K mg base CX k fa fd [x] sp) (hbind:∀(s:Shared)(u:Value),BindsTo s fd ⟨[u],[]⟩ [(x,u)])
  (hsp:∀H:Hp,Only H->SqL K H a (ns.map V.int)->sp [.ref a] H (λv _=>v=.bl true) λ_ _ _=>False)
  (hCX:∀H e s',CX [] H s₁ (λ_ _ _=>False) e s'->False):
  codeAny (model P w) callerA (.call (.ref fa) ⟨[.ref a],[]⟩) (λr s'=>r=.ok (.ret (.bool true))/\OldK s₁.heap s'.heap/\s'.os=s₁.os/\AllBare s'.gens) s₁:=by
 have rv:=vals_ints hi;have lenV:=hi.length
 --from an abstract heap in which nothing but the script may be tracked
 have core:∀H:Hp,Only H->SqL K H a (ns.map V.int)->HOk P w H s₁.heap->(∀b,H b≠none->b=a)->(H a≠none->K.lookup a=none)->
   codeAny (model P w) callerA (.call (.ref fa) ⟨[.ref a],[]⟩) (λr s'=>r=.ok (.ret (.bool true))/\OldK s₁.heap s'.heap/\s'.os=s₁.os/\AllBare s'.gens) s₁:=by
  intro H hO hS hok hA hK;have base_of:∀{b:Addr}{o:Obj},s₁.heap.get? b=some o->H b=none->(hidT s₁.heap H).get? b=some o:=λe n=>uL e n;have noA:∀{b:Addr}{o:Obj}{es:Array DictEntry}{ep:Nat},s₁.heap.get? b=some o->o.data=.dict es ep->H b=none:=λ{b o es ep} e d=>by
   cases q:H b with
   |none=>rfl
   |some u=>
    have e':b=a:=hA b (by rw[q];simp);subst e';rw[ha] at e;cases e;have d':Data.seq vs.toArray _=Data.dict es ep:=d;cases d'
  have noS:∀{b:Addr}{o:Obj},s₁.heap.get? b=some o->(∀its n,o.data≠.seq its n)->H b=none:=λ{b o} e nd=>by
   cases q:H b with
   |none=>rfl
   |some u=>
    have e':b=a:=hA b (by rw[q];simp);subst e';rw[ha] at e;cases e;exact(nd _ _ rfl).elim
  have nsK:∀{b:Addr}{m:Str->Option Value},s₁.heap.Ns b m->(hidT s₁.heap H).Ns b m:=λ{b m} ⟨o,es,ep,e,d,r⟩=>⟨o,es,ep,base_of e (noA e d),d,r⟩
  have hKb:K.In (hidT s₁.heap H):=λb o e=>base_of (KX b o e) (by
   cases q:H b with
   |none=>rfl
   |some u=>
    have e':b=a:=hA b (by rw[q];simp);subst e';rw[hK (by rw[q];simp)] at e;cases e)
  have hM:Mod K mg (hidT s₁.heap H):=⟨hKb,nsK hns,⟨mb,nsK hb,hbb⟩,let⟨mc,h1,h2⟩:=hlim;⟨mc,nsK h1,h2⟩⟩
  have e0:Env0 P w K mg (hidT s₁.heap H) callerA [] s₁ H:=⟨rfl,hM,λb o e=>of_hidT e,Nat.le_of_eq (sJ _ _),trivial,λb hb=>absurd (show b∈([]:List Addr) from hb) (by simp),hok,.of_eq hg⟩
  refine codeAny_mono ((F _ hKb (nsK hns) λb o e nd=>base_of e (noS e nd)).run callerA [] s₁ H ⟨[.ref a],[]⟩ [.ref a] [.ref a] _ _ hr e0 (hbind s₁ (.ref a)) (.cons rfl .nil) (hsp H hO hS)) λr s' h=>?_
  cases r with
  |error e=>exact(hCX H e s' h).elim
  |ok fl=>
   cases fl with
   |next=>exact False.elim h
   |brk=>exact False.elim h
   |cont=>exact False.elim h
   |ret u=>
    obtain⟨v,H',os,bare,un,hok',r',q⟩:=h;have q':v=.bl true:=q;subst q';obtain rfl:u=Value.bool true:=r';refine⟨rfl,OldK.of_keep λb o e=>?_,os,bare⟩
    cases q:H b with
    |none=>exact un.keep b o e q (by intro z;exact absurd (show b∈([]:List Addr) from z) (by simp)) (by simp)
    |some u=>
     rcases hO b with z|⟨ob,xs,z⟩
     ·rw[q] at z;cases z
     ·have z2:=un.frzs b ob _ z
      obtain⟨e1,_⟩:=hok b _ z;obtain⟨e2,_⟩:=hok' b _ z2;rw[e] at e1;cases e1;exact e2
 cases hk:K.lookup a with
 |some o=>
  --the script is one of the module's own objects
  have e:=KX a o hk;rw[ha] at e;cases e;refine core (λ_=>none) (λ_=>.inl rfl) (.inr ⟨_,vs.toArray,_,hk,rfl,rfl,rfl,by rw[yW,lenV];exact hl,by simpa using rv⟩) (λb u z=>by have z':(none:Option HO)=some u:=z;cases z') (λb z=>absurd rfl z) λz=>absurd rfl z
 |none=>
  refine core (λb=>if b=a then some (.frz {cls:=.type "list",data:=.seq vs.toArray} (.lst (ns.map V.int))) else none) (λb=>?_) (.inl (.inr ⟨{cls:=.type "list",data:=.seq vs.toArray},yM rfl⟩)) (λb u z=>?_) (λb z=>?_) λ_=>hk
  ·by_cases hb:b=a
   ·exact .inr ⟨_,_,yM hb⟩
   ·exact .inl (yK hb)
  ·by_cases hb:b=a
   ·have z':=(yM hb).symm.trans z
    cases z';subst hb;exact⟨ha,by rw[yI];exact hl,vs,_,rv,ha⟩
   ·have z':=(yK hb).symm.trans z
    cases z'
  ·by_cases hb:b=a
   ·exact hb
   ·exact absurd (yK hb) z
theorem v5(O:OwnCls x C bm nid mg h)(k:∀a o,h.get? a=some o->(∀its n,o.data≠.seq its n)->b.get? a=some o):OwnCls x C bm nid mg b:=by
 obtain⟨tl,N,nm,q,bs,hdct,sn,sub,ab,col,dd,k0,k1,k2,k3,k5,mN,hC,hN,hni,T⟩:=O.obj;have ns:∀{N:Addr}{m:Str->Option Value},h.Ns N m->b.Ns N m:=λ{N m} ⟨o,es,ep,e,d,r⟩=>⟨o,es,ep,k _ _ e λits n z=>(by rw[d] at z;cases z),d,r⟩
 refine⟨O.bound,tl,N,nm,q,bs,hdct,sn,sub,ab,col,dd,k0,k1,k2,k3,k5,mN,k _ _ hC (λits n z=>by cases z),ns hN,hni,?_⟩;clear hC hN hni
 induction T with
 |base=>exact .base
 |own hA hN hni _ ih=>exact .own (k _ _ hA λits n z=>by cases z) (ns hN) hni ih
namespace Snd
open Py
theorem sp_law{K:PySem.W.Frag}(e:Φ f [.scr ns]=.ok (.bl true))(hO:Only H)(hS:SqL K H a (ns.map V.int)):spOf K cl Φ f [.ref a] H (λv _=>v=.bl true) λ_ _ _=>False:=by
 refine⟨λ_=>False,[.scr ns],λ_ z=>z.elim,Reps.cons ?_ Reps.nil,?_⟩
 ·simp only[Rep]
  refine⟨a,rfl,?_⟩;rcases hS with(h|⟨o,h⟩)|h
  ·rcases hO a with z|⟨o,xs,z⟩
   ·rw[z] at h;cases h
   ·rw[z] at h;cases h
  ·exact .inl ⟨o,h⟩
  ·exact .inr h
 ·rw[e]
  intro F' v H' u r;simpa only[Rep] using r
theorem no_cxe(h:CXE P w [] H s (λ_ _ _=>False) e s'):False:=by
 obtain⟨a,C,H',_,_,_,_,_,_,z⟩:=h;exact z
end Snd
end L2
namespace L2.Snd
open PySem PySem.Spec PyProof.Rows L2 Py
section
variable{X:Cx}{cl:Nat->Addr}{XE:Nat->St->Hp->Prop}{YE:Nat->Hp->Prop}{Φ:Nat->List D->R D}{G:List D}{n:Nat}{m fr:Bool}
theorem pc_R(ho:OpR X (compareOp op) r)(ha:PE X a ta)(hb:PE X b tb):PC X op a b (tOp r ta tb):=
 λpins s σ H Q I h=>binT ha hb I h λv u s2 x y H2 I2 rx ry q=>ho pins s2 σ H2 x y v u Q I2 rx ry q
structure OkCm(X:Cx)(cl:Nat->Addr)(XE:Nat->St->Hp->Prop)(Φ:Nat->List D->R D)(G:List D)(op:CmpOp)(ex:Ex)(a b:Expr):Prop where
 ok:∃t,PC X op a b t/\∀F σ δ H Q,Sees X.K cl F H σ δ->Post X.K cl (λc=>XE c σ) true false F H Q (ev Φ G true ex δ)->t σ H Q
 bl:∀δ d,ev Φ G true ex δ=.ok d->∃b,d=.bl b
 md:∀m δ,ev Φ G m ex δ=ev Φ G true ex δ
theorem OkCm.t(h:OkCm X cl XE Φ G op ex a b)(hm:behindInMarks op b=false):OkT X cl XE Φ G (.leaf ex) (.Compare a [op] [b] pos):=by
 obtain⟨t,pc,i⟩:=h.ok;refine⟨_,kM pc hm,λF σ δ H Q S z=>i F σ δ H _ S ?_⟩;simp only[evT] at z;refine Meet.mono (Meet.bind z) (λd e q F' v H' u g=>?_) λc q=>q;obtain⟨b',rfl⟩:=h.bl δ d e;have gv:v=.bl b':=g.got.bl;exact⟨b',gv,q F' H' u⟩
theorem eN(hr:OpR X (compareOp op) r)(ia:OkE X cl XE Φ G true ea a)(ib:OkE X cl XE Φ G true eb b)
  (ho:∀(YE:Nat->Hp->Prop) F H x y p q Q,Trk F H->Got X.K cl F H p x->Got X.K cl F H q y->Post X.K cl YE true false F H Q (op2 o p q)->r x y H Q) (hbl:∀p q d,op2 o p q=.ok d->∃b,d=.bl b):OkCm X cl XE Φ G op (.op2 o ea eb) a b:=by
 obtain⟨ta,pa,ia⟩:=ia;obtain⟨tb,pb,ib⟩:=ib;refine⟨⟨_,pc_R hr pa pb,λF σ δ H Q S h=>two (a:=a) (b:=b) (o:=op2 o) ia ib ho S (by simpa only[ev] using h)⟩,λδ d e=>?_,λm δ=>by simp only[ev]⟩;simp only[ev] at e
 cases e1:ev Φ G true ea δ with
 |ok p=>
  cases e2:ev Φ G true eb δ with
  |ok q=>rw[e1,e2] at e;exact hbl p q d e
  |exc c=>rw[e1,e2] at e;cases e
  |bad=>rw[e1,e2] at e;cases e
 |exc c=>rw[e1] at e;cases e
 |bad=>rw[e1] at e;cases e
variable{ea eb:Ex}{a b:Expr}{pos:Pos}
theorem bl_lt(p q d:D)(h:op2 .lt p q=.ok d):∃b,d=.bl b:=by
 rcases sp_lt p q with⟨i,j,_,_,e⟩|e<;>rw[e] at h<;>cases h;exact⟨_,rfl⟩
theorem bl_gt(p q d:D)(h:op2 .gt p q=.ok d):∃b,d=.bl b:=by
 rcases sp_gt p q with⟨i,j,_,_,e⟩|e<;>rw[e] at h<;>cases h;exact⟨_,rfl⟩
theorem bl_ge(p q d:D)(h:op2 .ge p q=.ok d):∃b,d=.bl b:=by
 rcases sp_ge p q with⟨i,j,_,_,e⟩|e<;>rw[e] at h<;>cases h;exact⟨_,rfl⟩
theorem op2_eq(p q:D):op2 .eq p q=if pln 9 p&&pln 9 q&&kin p q then .ok (.bl (eqD p q)) else .bad:=by cases p<;>cases q<;>rfl
theorem op2_ne(p q:D):op2 .ne p q=if pln 9 p&&pln 9 q&&kin p q then .ok (.bl (!eqD p q)) else .bad:=by cases p<;>cases q<;>rfl
theorem qX(p q:D):op2 .notIn p q=(isin p q).bind λb=>.ok (.bl (!b)):=by cases p<;>cases q<;>rfl
theorem bl_eq(p q d:D)(h:op2 .eq p q=.ok d):∃b,d=.bl b:=by
 rw[op2_eq] at h;split at h<;>cases h;exact⟨_,rfl⟩
theorem bl_ne(p q d:D)(h:op2 .ne p q=.ok d):∃b,d=.bl b:=by
 rw[op2_ne] at h;split at h<;>cases h;exact⟨_,rfl⟩
theorem bl_nin(p q d:D)(h:op2 .notIn p q=.ok d):∃b,d=.bl b:=by
 rw[qX] at h;cases e:isin p q<;>rw[e] at h<;>cases h;exact⟨_,rfl⟩
theorem c_lt(ia:OkE X cl XE Φ G true ea a)(ib:OkE X cl XE Φ G true eb b):OkCm X cl XE Φ G .Lt (.op2 .lt ea eb) a b:=eN op_lt ia ib (λYE F H x y p q Q t g1 g2 h=>dQ (k:=λi j=>.bl (decide (i<j))) sp_lt (λ_ _=>by simp[Rep]) (λ_ _=>rfl) g1 g2 h) bl_lt
theorem c_gt(ia:OkE X cl XE Φ G true ea a)(ib:OkE X cl XE Φ G true eb b):OkCm X cl XE Φ G .Gt (.op2 .gt ea eb) a b:=eN op_gt ia ib (λYE F H x y p q Q t g1 g2 h=>dQ (k:=λi j=>.bl (decide (j<i))) sp_gt (λ_ _=>by simp[Rep]) (λ_ _=>rfl) g1 g2 h) bl_gt
theorem c_ge(ia:OkE X cl XE Φ G true ea a)(ib:OkE X cl XE Φ G true eb b):OkCm X cl XE Φ G .GtE (.op2 .ge ea eb) a b:=eN op_ge ia ib (λYE F H x y p q Q t g1 g2 h=>dQ (k:=λi j=>.bl (decide (j<=i))) sp_ge (λ_ _=>by simp[Rep]) (λ_ _=>rfl) g1 g2 h) bl_ge
theorem c_eq(hu:X.A.units+20<cLine)(ia:OkE X cl XE Φ G true ea a)(ib:OkE X cl XE Φ G true eb b):OkCm X cl XE Φ G .Eq (.op2 .eq ea eb) a b:=eN (op_eqD (cl:=cl) hu) ia ib (λYE F H x y p q Q t g1 g2 h=>ho_eq g1 g2 h) bl_eq
theorem c_ne(hu:X.A.units+20<cLine)(ia:OkE X cl XE Φ G true ea a)(ib:OkE X cl XE Φ G true eb b):OkCm X cl XE Φ G .NotEq (.op2 .ne ea eb) a b:=eN (op_neD (cl:=cl) hu) ia ib (λYE F H x y p q Q t g1 g2 h=>ho_ne g1 g2 h) bl_ne
theorem c_nin(ia:OkE X cl XE Φ G true ea a)(ib:OkE X cl XE Φ G true eb b):OkCm X cl XE Φ G .NotIn (.op2 .notIn ea eb) a b:=eN kW ia ib (λYE F H x y p q Q t g1 g2 h=>ho_in true g1 g2 (by rw[qX] at h;simpa using h)) bl_nin
theorem c_din(neg:Bool)(hu:X.A.units+20<cLine)(ia:OkE X cl XE Φ G true ea a)(ib:OkE X cl XE Φ G true eb b):OkCm X cl XE Φ G (if neg then .NotIn else .In) (.din neg ea eb) a b:=by
 have hu1:X.A.units+1<cLine:=Nat.lt_of_le_of_lt (Nat.add_le_add_left (by decide) _) hu;obtain⟨ta,pa,ia⟩:=ia;obtain⟨tb,pb,ib⟩:=ib;have rd:∀F σ δ H Q,Sees X.K cl F H σ δ->Post X.K cl (λc=>XE c σ) true false F H Q (ev Φ G true (.din neg ea eb) δ)->ta σ H λy H1=>tb σ H1 λx H2=>∃a o,x=.ref a/\DGet H2 a y o/\Q (.bl (if neg then !o.isSome else o.isSome)) H2:=λF σ δ H Q S h=>by
  simp only[ev] at h;refine ia F σ δ H _ S (Meet.mono (Meet.bind h) (λq _ hp F1 y H1 u1 g1=>?_) λc z=>z);refine ib F1 σ δ H1 _ (S.up u1) (Meet.mono (Meet.bind (Post.up hp u1)) (λp _ hq F2 x H2 u2 g2=>?_) λc z=>z);have hq2:=Post.up (K:=X.K) (cl:=cl) hq u2;obtain⟨ks,ds,i,rfl,rfl⟩:∃ks ds i,p=.dic ks ds/\q=.int i:=by
   cases p<;>cases q<;>first|exact(show False from hq2).elim|exact⟨_,_,_,rfl,rfl⟩
  obtain⟨l,kvs,rfl,h1,h2,h3⟩:=g2.got.dic;refine⟨l,_,rfl,by rw[(g1.got.up u2).int];exact DGet.k (k:=Sum.inl i) h1,?_⟩;rw[←(k7 i h2 h3).2];exact Post.bl hq2
 refine⟨?_,λδ d e=>?_,λm δ=>by simp only[ev]⟩
 ·cases neg with
  |true=>exact⟨_,sQ hu1 pa pb,rd⟩
  |false=>exact⟨_,pc_din hu1 pa pb,rd⟩
 ·simp only[ev] at e
  cases e1:ev Φ G true ea δ with
  |ok p=>
   cases e2:ev Φ G true eb δ with
   |ok q=>
    rw[e1,e2] at e;simp only[R.bind_ok] at e;cases q<;>cases p<;>first|(cases e;exact⟨_,rfl⟩)|cases e
   |exc c=>rw[e1,e2] at e;cases e
   |bad=>rw[e1,e2] at e;cases e
  |exc c=>rw[e1] at e;cases e
  |bad=>rw[e1] at e;cases e
theorem v7(hN:X.N[i]?=some x:=by rfl)(hv:Vis X.env.scope x:=by first|exact Or.inl rfl|exact Or.inr (Or.inl rfl)|exact Or.inr (Or.inr rfl))(hd:(x==("__debug__":Str))=false:=by decide)(hcd:(x==("__classdict__":Str))=false:=by decide):
  OkE X cl XE Φ G m (.var i) (.Name x pos):=ok_var hN hv hd hcd
theorem x_add(ia:OkE X cl XE Φ G true ea a)(ib:OkE X cl XE Φ G true eb b):OkE X cl XE Φ G m (.op2 .add ea eb) (.BinOp a .Add b pos):=gT (op_add.or (op_cat.or vC)) ia ib λYE F H x y p q Q t g1 g2 h=>ho_add t g1 g2 h
theorem x_sub(ia:OkE X cl XE Φ G true ea a)(ib:OkE X cl XE Φ G true eb b):OkE X cl XE Φ G m (.op2 .sub ea eb) (.BinOp a .Sub b pos):=gT oU ia ib λYE F H x y p q Q t g1 g2 h=>dQ (k:=λi j=>.int (i-j)) sp_sub (λ_ _=>by simp[Rep]) (λ_ _=>rfl) g1 g2 h
theorem x_mul(ia:OkE X cl XE Φ G true ea a)(ib:OkE X cl XE Φ G true eb b):OkE X cl XE Φ G m (.op2 .mul ea eb) (.BinOp a .Mult b pos):=gT gN ia ib λYE F H x y p q Q t g1 g2 h=>kY (C:=λi j=>(-(2^64)<i/\i<2^64)\/(-(2^64)<j/\j<2^64)) (k:=λi j=>.int (i*j)) sp_mul (λ_ _=>by simp[Rep]) (λ_ _=>rfl) g1 g2 h
theorem x_mod(ia:OkE X cl XE Φ G true ea a)(ib:OkE X cl XE Φ G true eb b):OkE X cl XE Φ G m (.op2 .mod ea eb) (.BinOp a .Mod b pos):=gT uT ia ib λYE F H x y p q Q t g1 g2 h=>kY (C:=λi j=>0<j) (k:=λi j=>.int (i%j)) sp_mod (λ_ _=>by simp[Rep]) (λ_ _=>rfl) g1 g2 h
theorem x_fdiv(ia:OkE X cl XE Φ G true ea a)(ib:OkE X cl XE Φ G true eb b):OkE X cl XE Φ G m (.op2 .fdiv ea eb) (.BinOp a .FloorDiv b pos):=gT op_fdiv ia ib λYE F H x y p q Q t g1 g2 h=>kY (C:=λi j=>0<j/\j<1073741824) (k:=λi j=>.int (i/j)) sp_fdiv (λ_ _=>by simp[Rep]) (λ_ _=>rfl) g1 g2 h
theorem x_neg(ia:OkE X cl XE Φ G true ea a):OkE X cl XE Φ G m (.op1 .neg ea) (.UnaryOp .USub a pos):=ok_un kQ ia λYE F H x p Q t g h=>ho_neg g h
theorem x_at(ia:OkE X cl XE Φ G true ea a)(ib:OkE X cl XE Φ G true eb b)(hs:PlainIx b:=by exact λ_ _=>rfl):OkE X cl XE Φ G m (.op2 .at ea eb) (.Subscript a b pos):=ok_ix (ix_list.or u8) hs ia ib λYE F H x y p q Q t g1 g2 h=>ho_at g1 g2 h
theorem x_dget(hu:X.A.units+20<cLine)(ia:OkE X cl XE Φ G true ea a)(ib:OkE X cl XE Φ G true eb b)(hs:NoSl b:=by exact λ_ _=>rfl):OkE X cl XE Φ G m (.dget ea eb) (.Subscript a b pos):=ok_dget (Nat.lt_of_le_of_lt (Nat.add_le_add_left (by decide) _) hu) hs ia ib
theorem tH(δ:Sto)(c:Nat):ev Φ G m (.var i) δ≠.exc c:=by
 simp only[ev];cases m<;>simp only[rdR,rdV]<;>(intro z;split at z<;>first|(split at z<;>cases z)|cases z)
theorem x_index{i:Nat}{apos cpos:Pos}(ia:OkE X cl XE Φ G true ea a)(ib:OkE X cl XE Φ G true (.var i) b)(hbase:attributeBase a "index" X.env (eval a X.env)=eval a X.env:=by rfl)(hline:(apos.endLine==cpos.line)=true:=by rfl)(hs:starEach [b] X.env=[(false,eval b X.env)]:=by rfl):
  OkE X cl XE Φ G m (.op2 .index ea (.var i)) (.Call (.Attribute a "index" apos) [b] [] cpos):=ok_meth PySem.F.slot_list_index PySem.F.type_list_index vD ia ib hbase hline hs (λp q=>by cases p<;>first|exact .inl ⟨_,rfl⟩|exact .inr rfl) (λδ c=>tH δ c) λYE F H x y p q Q g1 g2 h=>vN g1 g2 h
theorem x_len{p:Pos}(hm:X.mg "len"=none)(ia:OkE X cl XE Φ G true ea a)(hg:Gl X "len":=by rfl)(hs:starEach (a::[]) X.env=(false,eval a X.env)::starEach [] X.env:=by rfl):OkE X cl XE Φ G m (.op1 .len ea) (.Call (.Name "len" p) [a] [] pos):=
 dS (exs:=[ea]) (o:=lift1 (op1 .len)) ev1 dM hg hm PySem.boot_len (by decide) (by decide) hs rfl (aU hs ia bG) λYE F H vs ds Q t g h=>ho_len g h
theorem x_dlen{p:Pos}(hm:X.mg "len"=none)(ia:OkE X cl XE Φ G true ea a)(hg:Gl X "len":=by rfl)(hs:starEach [a] X.env=[(false,eval a X.env)]:=by rfl):OkE X cl XE Φ G m (.dlen ea) (.Call (.Name "len" p) [a] [] pos):=ok_dlen hg hm hs ia
theorem x_list{p:Pos}(hm:X.mg "list"=none)(ia:OkE X cl XE Φ G true ea a)(hg:Gl X "list":=by rfl)(hs:starEach (a::[]) X.env=(false,eval a X.env)::starEach [] X.env:=by rfl):OkE X cl XE Φ G m (.op1 .list ea) (.Call (.Name "list" p) [a] [] pos):=
 jQ (exs:=[ea]) (o:=lift1 (op1 .list)) ev1 dO hg hm boot_list (by decide) (by decide) hs rfl (aU hs ia bG) λYE F H vs ds Q t g h=>ho_list t g h
theorem x_tuple{p:Pos}(hm:X.mg "tuple"=none)(ia:OkE X cl XE Φ G true ea a)(hg:Gl X "tuple":=by rfl)(hs:starEach (a::[]) X.env=(false,eval a X.env)::starEach [] X.env:=by rfl):OkE X cl XE Φ G m (.op1 .tuple ea) (.Call (.Name "tuple" p) [a] [] pos):=
 jQ (exs:=[ea]) (o:=lift1 (op1 .tuple)) ev1 jA hg hm boot_tuple (by decide) (by decide) hs rfl (aU hs ia bG) λYE F H vs ds Q t g h=>vJ g h
theorem x_isInt{p1 p2:Pos}(hm:X.mg "isinstance"=none)(hm2:X.mg "int"=none)(ia:OkE X cl XE Φ G true ea a)(hg:Gl X "isinstance":=by rfl)(hg2:Gl X "int":=by rfl)(hs:starEach [a,.Name "int" p2] X.env=[(false,eval a X.env),(false,eval (.Name "int" p2) X.env)]:=by rfl):
  OkE X cl XE Φ G m (.op1 .isInt ea) (.Call (.Name "isinstance" p1) [a,.Name "int" p2] [] pos):=kZ (T:="int") (by simp) hg hm hg2 hm2 boot_int (by decide) (by decide) ia hs rfl vP
theorem v8{p1 p2:Pos}(hm:X.mg "isinstance"=none)(hm2:X.mg "bool"=none)(ia:OkE X cl XE Φ G true ea a)(hg:Gl X "isinstance":=by rfl)(hg2:Gl X "bool":=by rfl)(hs:starEach [a,.Name "bool" p2] X.env=[(false,eval a X.env),(false,eval (.Name "bool" p2) X.env)]:=by rfl):
  OkE X cl XE Φ G m (.op1 .isBool ea) (.Call (.Name "isinstance" p1) [a,.Name "bool" p2] [] pos):=kZ (T:="bool") (by simp) hg hm hg2 hm2 boot_bool (by decide) (by decide) ia hs rfl sX
theorem x_isTup{p1 p2:Pos}(hm:X.mg "isinstance"=none)(hm2:X.mg "tuple"=none)(ia:OkE X cl XE Φ G true ea a)(hg:Gl X "isinstance":=by rfl)(hg2:Gl X "tuple":=by rfl)(hs:starEach [a,.Name "tuple" p2] X.env=[(false,eval a X.env),(false,eval (.Name "tuple" p2) X.env)]:=by rfl):
  OkE X cl XE Φ G m (.op1 .isTup ea) (.Call (.Name "isinstance" p1) [a,.Name "tuple" p2] [] pos):=kZ (T:="tuple") (by simp) hg hm hg2 hm2 boot_tuple (by decide) (by decide) ia hs rfl vQ
theorem x_isLst{p1 p2:Pos}(hm:X.mg "isinstance"=none)(hm2:X.mg "list"=none)(ia:OkE X cl XE Φ G true ea a)(hg:Gl X "isinstance":=by rfl)(hg2:Gl X "list":=by rfl)(hs:starEach [a,.Name "list" p2] X.env=[(false,eval a X.env),(false,eval (.Name "list" p2) X.env)]:=by rfl):
  OkE X cl XE Φ G m (.op1 .isLst ea) (.Call (.Name "isinstance" p1) [a,.Name "list" p2] [] pos):=kZ (T:="list") (by simp) hg hm hg2 hm2 boot_list (by decide) (by decide) ia hs rfl vR
theorem x_cons(ia:OkE X cl XE Φ G m ea a)(ir:OkA X cl XE Φ G m es as)(hs:starEach (a::as) X.env=(false,eval a X.env)::starEach as X.env:=by rfl):OkA X cl XE Φ G m (ea::es) (a::as):=aU hs ia ir
theorem x_tup{exs:List Ex}{es:List Expr}{k:Nat}(ia:OkA X cl XE Φ G false exs es)(hl:exs.length<=LIM:=by decide):OkE X cl XE Φ G m (.tup exs) (.Tuple es k pos):=ok_tup hl ia
theorem x_lst(ia:OkA X cl XE Φ G false exs es)(hl:exs.length<=LIM:=by decide):OkE X cl XE Φ G m (.lst exs) (.List es pos):=ok_lst hl ia
theorem t_cm(h:OkCm X cl XE Φ G op ex a b)(hm:behindInMarks op b=false:=by rfl):OkT X cl XE Φ G (.leaf ex) (.Compare a [op] [b] pos):=h.t hm
theorem t_leaf(ia:OkE X cl XE Φ G true ex e)(he:∀whole,isTrue e X.env whole=(do let v←whole;standAt e.pos;holding [v] (truthy v)):=by intro _;rfl):OkT X cl XE Φ G (.leaf ex) e:=ok_leaf he ia
theorem v9(hN:X.N.Nodup)(hi:X.N[i]?=some x:=by rfl)(hx:Loc X.env.scope x:=by first|exact Or.inl rfl|exact Or.inr rfl)(hf:X.fn x=true\/X.env.scope.names.lookup x=some .local:=by first|exact .inl rfl|exact .inr rfl):OkG X cl [i] (gName i) (.Name x pos):=ok_g1 hN hi hx hf
theorem g_two{i j:Nat}{x y:Str}{k:Nat}{p1 p2:Pos}(hN:X.N.Nodup)(hc:X.calm=true:=by rfl)(hi:X.N[i]?=some x:=by rfl)(hx:Loc X.env.scope x:=by first|exact Or.inl rfl|exact Or.inr rfl)(hf:X.fn x=true\/X.env.scope.names.lookup x=some .local:=by first|exact .inl rfl|exact .inr rfl)
  (hj:X.N[j]?=some y:=by rfl) (hy:Loc X.env.scope y:=by first|exact Or.inl rfl|exact Or.inr rfl) (hf2:X.fn y=true\/X.env.scope.names.lookup y=some .local:=by first|exact .inl rfl|exact .inr rfl):
  OkG X cl [i,j] (gTup X.K 2 (gCons (gName i) (gCons (gName j) gNil))) (.Tuple [.Name x p1,.Name y p2] k pos):=ok_g2 hc hN hi hx hf hj hy hf2
theorem i_rng{tg:Expr}{p:Pos}(hm:X.mg "range"=none)(ia:OkE X cl XE Φ G m ea a)(hg:Gl X "range":=by rfl)(hs:starEach [a] X.env=[(false,eval a X.env)]:=by rfl):OkI X cl XE Φ G m .rng [ea] tg (.Call (.Name "range" p) [a] [] pos):=ok_rng hg hm hs ia
theorem i_enum{elts:List Expr}{tk:Nat}{tpos p:Pos}(hm:X.mg "enumerate"=none)(ia:OkE X cl XE Φ G m ea a)(hg:Gl X "enumerate":=by rfl)(hs:starEach [a] X.env=[(false,eval a X.env)]:=by rfl):OkI X cl XE Φ G m .enum [ea] (.Tuple elts tk tpos) (.Call (.Name "enumerate" p) [a] [] pos):=ok_enum hg hm hs ia
noncomputable def compScB(Nx:List Str)(kx:Str->Option NameKind)(N':List Str)(caps:List Nat)(ntg:Nat)(scope:Scope):Bool:=
 scope.kind== .function&&scope.names.all (λy=>y.2 != .cell)&&scope.names.all (λy=>y.2 != .local||scope.names.lookup y.1==some .local)
  &&scope.names.all (λy=>y.2 != .free||(kx y.1==some .cell||kx y.1==some .free))&&N'.length==ntg+caps.length
  &&(List.range caps.length).all (λi=>match caps[i]?,N'[ntg+i]? with
   |some j,some x=>Nx[j]?==some x&&scope.names.lookup x==some .free
   |_,_=>true)
theorem jT(h:compScB X.N X.env.kindOf N' caps ntg scope=true):CompSc X N' caps ntg scope:=by
 unfold compScB at h;simp only[yU,List.all_eq_true,Bool.or_eq_true,bne_iff_ne,beq_iff_eq] at h;obtain⟨⟨⟨⟨⟨h1,h2⟩,h3⟩,h4⟩,h5⟩,h6⟩:=h;refine⟨h1,h2,λy hy e=>(h3 y hy).resolve_left λz=>z e,λy hy e=>(h4 y hy).resolve_left λz=>z e,h5,λi j x e1 e2=>?_⟩;have hi:i<caps.length:=(List.getElem?_eq_some_iff.mp e1).1;have z:=h6 i (List.mem_range.mpr hi);rw[e1,e2] at z;simp only[yU,beq_iff_eq] at z;exact z
noncomputable def cnm(X:Cx)(tg:Expr)(caps:List Nat):List Str:=(match tg with
 |.Name x _=>[x]
 |.Tuple [.Name x _,.Name y _] _ _=>[x,y]
 |_=>[])++caps.map λi=>X.N.getD i ""
noncomputable abbrev cxN(X:Cx)(tg:Expr)(caps:List Nat)(scope:Scope)(cl':List (Str×Addr))(C:Addr)(s:Shared)(H:Hp)(fp:List Addr)(E:Value->Shared->Prop):Cx:=cxComp X (cnm X tg caps) scope cl' C s H fp E
noncomputable def ndB:List Str->Bool
 |[]=>true
 |x::r=>!r.contains x&&ndB r
theorem nd_of:∀{l:List Str},ndB l=true->l.Nodup
 |[],_=>z0
 |x::r,h=>by
  simp only[ndB,yU,Bool.not_eq_true',List.contains_eq_mem,decide_eq_false_iff_not] at h;exact List.nodup_cons.mpr ⟨h.1,nd_of h.2⟩
noncomputable def tgB(tg:Expr)(sc:Scope)(n:Nat):Bool:=match tg with
 |.Name x _=>n==1&&sc.names.lookup x==some .local
 |.Tuple [.Name x _,.Name y _] _ _=>n==2&&(sc.names.lookup x==some .local&&sc.names.lookup y==some .local)
 |_=>false
noncomputable def scB(X:Cx)(tg:Expr)(caps:List Nat)(n:Nat)(sc:Scope):Bool:=compScB X.N X.env.kindOf (cnm X tg caps) caps n sc&&(tgB tg (relabel sc X.env) n&&ndB (cnm X tg caps))
theorem sc_of(h:scB X tg caps ntg scope=true)(hc:X.calm=true):CompSc X (cnm X tg caps) caps ntg scope/\∃g,∀cl' C s H fp E,OkG (cxN X tg caps scope cl' C s H fp E) cl (List.range ntg) g tg:=by
 simp only[scB,yU] at h;obtain⟨h1,h2,h3⟩:=h;refine⟨jT h1,?_⟩;have nd:=nd_of h3;unfold tgB at h2;split at h2
 ·simp only[yU,beq_iff_eq] at h2
  obtain⟨rfl,hx⟩:=h2;exact⟨_,λcl' C s H fp E=>ok_g1 (X:=cxN X _ caps scope cl' C s H fp E) nd rfl (.inl hx) (.inr hx)⟩
 ·simp only[yU,beq_iff_eq] at h2
  obtain⟨rfl,hx,hy⟩:=h2;exact⟨gTup X.K 2 (gCons (gName 0) (gCons (gName 1) gNil)),λcl' C s H fp E=>ok_g2 (X:=cxN X (.Tuple [.Name _ _,.Name _ _] _ _) caps scope cl' C s H fp E) hc nd rfl (.inl hx) (.inr hx) rfl (.inl hy) (.inr hy)⟩
 ·cases h2
theorem x_comp{cond:Option Tx}(hi:OkI X cl XE Φ G true k its tg iter)
  (ht:∀cl' C s H fp,OkC (cxN X tg caps scope cl' C s H fp λ_ _=>False) cl (λ_ _ _=>False) Φ G cond ifs) (he:∀cl' C s H fp,OkE (cxN X tg caps scope cl' C s H fp λ_ _=>False) cl (λ_ _ _=>False) Φ G false elt e)
  (Sc:scB X tg caps ntg scope=true:=by rfl) (hc:X.calm=true:=by rfl) (hs:∀x,foldedSetIterable iter X.env x=pure x:=by intro _;rfl):OkE X cl XE Φ G m (.comp k its caps ntg cond elt) (.ListComp e [⟨tg,iter,ifs,0⟩] scope pos):=by
 obtain⟨S,g,hg⟩:=sc_of (cl:=cl) Sc hc;exact ok_comp hc hi S (λcl' C s H fp=>hg cl' C s H fp _) ht he hs
theorem g4:PassAt (CXE X.prog X.w) X σ (XK1 cl λc=>(λ_ _ _=>False:Nat->St->Hp->Prop) c σ):=λpins H s e s' I ⟨_,_,_,_,_,_,_,_,_,_,_,z⟩=>z.elim
theorem wA(hx:X.ex=[])(t:ToX X cl XE)(σ:St):PassAt (CXE X.prog X.w) X σ (XK1 cl λc=>XE c σ):=λpins H s e s' I z=>pass_of hx t σ pins H s e s' I z
theorem x_call{k:Nat}{fa:Addr}{fd:FuncData}{ps:List Str}{f:Nat}{x:Str}{p:Pos}{exs:List Ex}{e:Expr}{es:List Expr}(Fo:FnOk X.prog X.w X.K X.mg X.base (CXE X.prog X.w) k fa fd ps (spOf X.K cl Φ f))(hr:Room k X.A)(hm:X.mg x=some (.ref fa))(hk:PySem.W.keepIn X.K (.ref fa)=true)(hb:Binds X.K fd ps [])
  (hx:∀σ,PassAt (CXE X.prog X.w) X σ (XK1 cl λc=>XE c σ)) (ia:OkA X cl XE Φ G false exs (e::es)) (hg:Gl X x:=by rfl) (hdb:(x==("__debug__":Str))=false:=by decide) (he:starEach (e::es) X.env=(false,eval e X.env)::starEach es X.env:=by rfl) (hpl:(backTo pos (starEach es X.env)).any (·.1)=false:=by rfl):
  OkE X cl XE Φ G m (.call f exs) (.Call (.Name x p) (e::es) [] pos):=ok_call Fo hr hg hm hk hb hx hdb he hpl ia
theorem s_asg{i:Nat}{x:Str}{ex:Ex}{e:Expr}{pos':Pos}(hN:X.N.Nodup)(ie:OkE X cl XE Φ G false ex e)(hi:X.N[i]?=some x:=by rfl)(hx:Loc X.env.scope x:=by first|exact Or.inl rfl|exact Or.inr rfl)(hf:X.fn x=true\/X.env.scope.names.lookup x=some .local:=by first|exact .inl rfl|exact .inr rfl)(hs:swapsWith e (some (.Name x pos')) pos.line X.env=pure false:=by rfl):
  OkS X cl XE Φ G n (.asg i ex) (.Assign [.Name x pos'] e pos):=oks_asg hN hi hx hf hs ie
theorem s_asgC{k:IterK}{its:List Ex}{caps:List Nat}{ntg:Nat}{cond:Option Tx}{elt:Ex}{tg iter e:Expr}{ifs:List Expr}{scope:Scope}{py spos:Pos}{i:Nat}{y:Str}(hN:X.N.Nodup)(hi:OkI X cl XE Φ G true k its tg iter)
  (ht:∀cl' C s H fp,OkC (cxN X tg caps scope cl' C s H fp λ_ _=>False) cl (λ_ _ _=>False) Φ G cond ifs) (he:∀cl' C s H fp,OkE (cxN X tg caps scope cl' C s H fp λ_ _=>False) cl (λ_ _ _=>False) Φ G false elt e)
  (Sc:scB X tg caps ntg scope=true:=by rfl) (hy:X.N[i]?=some y:=by rfl) (hx:Loc X.env.scope y:=by first|exact Or.inl rfl|exact Or.inr rfl) (hf:X.fn y=true\/X.env.scope.names.lookup y=some .local:=by first|exact .inl rfl|exact .inr rfl) (hsw:swapsWith (.ListComp e [⟨tg,iter,ifs,0⟩] scope pos) (some (.Name y py)) spos.line X.env=pure true:=by rfl)
  (hc:X.calm=true:=by rfl) (hs:∀x,foldedSetIterable iter X.env x=pure x:=by intro _;rfl):OkS X cl XE Φ G n (.asg i (.comp k its caps ntg cond elt)) (.Assign [.Name y py] (.ListComp e [⟨tg,iter,ifs,0⟩] scope pos) spos):=by
 obtain⟨S,g,hg⟩:=sc_of (cl:=cl) Sc hc;exact mQ rfl (mP hN hy hx hf hsw hc hi S (λcl' C s H fp=>hg cl' C s H fp _) ht he hs)
theorem s_new{i:Nat}{x:Str}{pos' p:Pos}(hN:X.N.Nodup)(hi:X.N[i]?=some x:=by rfl)(hx:Loc X.env.scope x:=by first|exact Or.inl rfl|exact Or.inr rfl)(hf:X.fn x=true\/X.env.scope.names.lookup x=some .local:=by first|exact .inl rfl|exact .inr rfl)(hs:swapsWith (.Dict [] [] p) (some (.Name x pos')) pos.line X.env=pure false:=by rfl):
  OkS X cl XE Φ G n (.new i) (.Assign [.Name x pos'] (.Dict [] [] p) pos):=oks_new hN hi hx hf hs
theorem s_app{i:Nat}{x:Str}{ex:Ex}{e:Expr}{p apos cpos:Pos}(ie:OkE X cl XE Φ G false ex e)(hN:X.N[i]?=some x:=by rfl)(hv:Vis X.env.scope x:=by first|exact Or.inl rfl|exact Or.inr (Or.inl rfl)|exact Or.inr (Or.inr rfl))(hd:(x==("__debug__":Str))=false:=by decide)(hcd:(x==("__classdict__":Str))=false:=by decide)
  (hbase:attributeBase (.Name x p) "append" X.env (eval (.Name x p) X.env)=eval (.Name x p) X.env:=by rfl) (hline:(apos.endLine==cpos.line)=true:=by rfl) (hs:starEach [e] X.env=[(false,eval e X.env)]:=by rfl)
  (hsw:swapsWith (.Call (.Attribute (.Name x p) "append" apos) [e] [] cpos) none pos.line X.env=pure false:=by rfl):OkS X cl XE Φ G n (.app i ex) (.Expr (.Call (.Attribute (.Name x p) "append" apos) [e] [] cpos) pos):=oks_app hN hv hd hcd hbase hline hs hsw ie
theorem s_put{i:Nat}{x:Str}{ex ix:Ex}{e ie:Expr}{p ps:Pos}(i1:OkE X cl XE Φ G false ex e)(i2:OkE X cl XE Φ G true ix ie)(hN:X.N[i]?=some x:=by rfl)(hv:Vis X.env.scope x:=by first|exact Or.inl rfl|exact Or.inr (Or.inl rfl)|exact Or.inr (Or.inr rfl))(hd:(x==("__debug__":Str))=false:=by decide)(hcd:(x==("__classdict__":Str))=false:=by decide)
  (hsw:swapsWithSole [.Subscript (.Name x p) ie ps] e pos.line X.env=pure false:=by rfl) (hw:swappedStores [.Subscript (.Name x p) ie ps] e X.env=pure none:=by rfl) (h1:(assignEach [.Subscript (.Name x p) ie ps] X.env).map (·.2)=[assign (.Subscript (.Name x p) ie ps) X.env]:=by rfl)
  (ha:∀v,assign (.Subscript (.Name x p) ie ps) X.env v=(do
   let ov←holding [v] (eval (.Name x p) X.env)
   let iv←holding [v,ov] (eval ie X.env)
   standAt ps
   holding [v,ov,iv] (setItem ov iv v)
   release [v,ov,iv] []):=by intro _;rfl):OkS X cl XE Φ G n (.put i ix ex) (.Assign [.Subscript (.Name x p) ie ps] e pos):=oks_put hN hv hd hcd hsw hw h1 ha i1 i2
theorem s_dput{i:Nat}{x:Str}{ex ix:Ex}{e ie:Expr}{p ps:Pos}(hu:X.A.units+20<cLine)(i1:OkE X cl XE Φ G false ex e)(i2:OkE X cl XE Φ G true ix ie)(hN:X.N[i]?=some x:=by rfl)(hv:Vis X.env.scope x:=by first|exact Or.inl rfl|exact Or.inr (Or.inl rfl)|exact Or.inr (Or.inr rfl))(hd:(x==("__debug__":Str))=false:=by decide)(hcd:(x==("__classdict__":Str))=false:=by decide)
  (hs:swapsWith e (some (.Subscript (.Name x p) ie ps)) pos.line X.env=pure false:=by rfl):OkS X cl XE Φ G n (.dput i ix ex) (.Assign [.Subscript (.Name x p) ie ps] e pos):=vY (Nat.lt_of_le_of_lt (Nat.add_le_add_left (by decide) _) hu) hN hv hd hcd hs i1 i2
theorem s_loop{b:List Stmt}(hi:OkI X.nox cl (λ_ _ _=>False) Φ G false k its tg iter)(hg:OkG X.nox cl tgs g tg)(hb:OkSs X.nox cl (λ_ _ _=>False) Φ G n body b)(hc:X.calm=true:=by rfl)(hs:∀x,foldedSetIterable iter X.env x=pure x:=by intro _;rfl):
  OkS X cl XE Φ G n (.loop k its tgs body) (.For tg iter b [] pos):=vZ hc hi hg hb hs
theorem s_raise{c:Nat}{x tx:Str}{bm bmN:List Value}{B Bn newId nid initId inN:String}{j:Nat}{p np cpos:Pos}(t:ToX X cl XE)(O:OwnCls x (cl c) bm newId X.mg X.base)(Fn:ExcBaseFacts Bn newId inN bmN)(hBn:bm.contains (.type Bn)=true)(FB:ExcBaseFacts B nid initId bm)
  (hc:X.calm=true:=by rfl) (hx:X.ex=[]:=by rfl) (hg:Gl X x:=by rfl) (hdb:(x==("__debug__":Str))=false:=by decide):OkS X cl XE Φ G n (.rai c) (.Raise (some (.Call (.Name x np) [.Constant (.str tx) j p] [] cpos)) none pos):=sZ (vG hc hx t hg hdb O Fn hBn FB)
end
theorem us1{α:Type}:∀{us:List α},us.length=1->∃a,us=[a]
 |[a],_=>⟨a,rfl⟩
theorem us2{α:Type}:∀{us:List α},us.length=2->∃a b,us=[a,b]
 |[a,b],_=>⟨a,b,rfl⟩
theorem us3{α:Type}:∀{us:List α},us.length=3->∃a b c,us=[a,b,c]
 |[a,b,c],_=>⟨a,b,c,rfl⟩
theorem us4{α:Type}:∀{us:List α},us.length=4->∃a b c d,us=[a,b,c,d]
 |[a,b,c,d],_=>⟨a,b,c,d,rfl⟩
variable{X:Cx}{cl:Nat->Addr}{XE:Nat->St->Hp->Prop}{YE:Nat->Hp->Prop}{Φ:Nat->List D->R D}{G:List D}{n:Nat}{m fr:Bool}
variable{ea eb:Ex}{a b:Expr}{pos:Pos}
end L2.Snd
namespace L2.Snd
open PySem PySem.Spec PyProof.Rows L2 Py
section
variable{X:Cx}{cl:Nat->Addr}{XE:Nat->St->Hp->Prop}{YE:Nat->Hp->Prop}{Φ:Nat->List D->R D}{G:List D}{n:Nat}{m fr:Bool}
theorem jU{K:PySem.W.Frag}:∀{xs:List D}{ws:List V},Reps K cl F H xs ws->xs.all smallI=true->∃ys:List Int,ws=ys.map V.int/\ys.length=xs.length/\(∀y∈ys,-1000000<=y/\y<=1000000)/\sumI xs=some ys.sum
 |[],ws,r,_=>⟨[],by simpa[Reps] using r,rfl,by simp,rfl⟩
 |d::xs,ws,r,h=>by
  rw[List.all_cons,yU] at h;obtain⟨v,r',rfl,rv,rr⟩:=(by simpa only[Reps] using r:∃v r,ws=v::r/\Rep K cl F H d v/\Reps K cl F H xs r)
  obtain⟨ys,rfl,hl,hb,hs⟩:=jU rr h.2
  cases d with
  |int i=>
   have rv:v=.int i:=by simpa only[Rep] using rv
   have hi: -1000000<=i/\i<=1000000:=of_decide_eq_true h.1;refine⟨i::ys,by rw[rv];rfl,by simp[hl],?_,?_⟩
   ·intro y hy
    rcases List.mem_cons.mp hy with h|h
    ·rw[h];exact hi
    ·exact hb y h
   ·rw[sumI,hs];simp
  |_=>exact absurd h.1 (λz=>by cases z)
theorem ho_sum(g:Paired (Got X.K cl F H) ds vs)(h:Post X.K cl YE m fr F H Q (lift1 (op1 .sum) ds)):
  ∃(p:Addr)(ys:List Int),vs=[.ref p]/\SqL X.K H p (ys.map V.int)/\ys.length<=1000/\(∀y∈ys,-1000000<=y/\y<=1000000)/\Q (.int ys.sum) H:=by
 match ds,g,h with
 |[],_,h=>exact(show False from h).elim
 |_::_::_,_,h=>exact(show False from h).elim
 |[d],g,h=>
  obtain⟨v,rfl,gv⟩:=Paired.one g;have h:Post X.K cl YE m fr F H Q (op1 .sum d):=h
  cases d with
  |lst xs=>
   obtain⟨a,ws,rfl,h1,r1⟩:=gv.lst;have h:Post X.K cl YE m fr F H Q (if xs.length<=1000/\xs.all smallI=true then ofO ((sumI xs).map .int) else .bad):=h;by_cases hc:xs.length<=1000/\xs.all smallI=true
   ·rw[yM hc] at h
    obtain⟨ys,rfl,hl,hb,hs⟩:=jU r1 hc.2;rw[hs] at h;exact⟨a,ys,rfl,SqL.of h1,by omega,hb,Post.int h⟩
   ·rw[yK hc] at h
    exact(show False from h).elim
  |_=>exact(show False from h).elim
theorem x_sum{ea:Ex}{a:Expr}{pos p:Pos}(hm:X.mg "sum"=none)(ia:OkE X cl XE Φ G true ea a)(hc:X.calm=true:=by rfl)(hg:Gl X "sum":=by rfl)(hs:starEach (a::[]) X.env=(false,eval a X.env)::starEach [] X.env:=by rfl):OkE X cl XE Φ G m (.op1 .sum ea) (.Call (.Name "sum" p) [a] [] pos):=
 dS (exs:=[ea]) (o:=lift1 (op1 .sum)) ev1 (jC hc) hg hm boot_sum (by decide) (by decide) hs rfl (aU hs ia bG) λYE F H vs ds Q t g h=>ho_sum g h
noncomputable def GlobT(K:PySem.W.Frag)(mg:Str->Option Value)(x:Str)(d:D):Prop:=∃(v:V)(u:Value),mg x=some u/\RelV v u/\∀(cl:Nat->Addr)(F:Addr->Prop)(H:Hp),Rep K cl F H d v
theorem jV:∀ys:List (Int×Tok),Vals (ys.map λy=>V.int y.1) (ys.map λy=>Value.int y.1 y.2)
 |[]=>.nil
 |y::r=>.cons ⟨y.2,rfl⟩ (jV r)
theorem jW{K:PySem.W.Frag}:∀ys:List (Int×Tok),Reps K cl F H (ys.map λy=>D.int y.1) (ys.map λy=>V.int y.1)
 |[]=>by simp[Reps]
 |y::r=>by
  simp only[yQ,Reps];exact⟨_,_,rfl,by simp[Rep],jW r⟩
theorem cU{K:PySem.W.Frag}(ys:List (Int×Tok))(hm:mg x=some (.ref a))(hl:K.lookup a=some ⟨.type "tuple",od,.seq (ys.map λy=>Value.int y.1 y.2).toArray k,sl⟩)(hn:ys.length<=sizeLine):GlobT K mg x (.tup (ys.map λy=>D.int y.1)):=
 ⟨.ref a,.ref a,hm,rfl,λcl F H=>by
  simp only[Rep];exact⟨a,_,rfl,.inr ⟨_,_,_,hl,rfl,rfl,by simpa using hn,by simpa using jV ys⟩,jW ys⟩⟩
end
noncomputable def rowT(r:List Int):D:=.tup (r.map .int)
structure Nest(H:Hp)(L:Addr)(as:List Addr)(R:List (List Int)):Prop where
 top:H L=some (.lst (as.map V.ref))
 len:as.length=R.length
 row:∀(j:Nat) a r,as[j]?=some a->R[j]?=some r->H a=some (.lst (r.map V.int))
 nd:as.Nodup
 ne:∀a∈as,a≠L
section
variable{X:Cx}{cl:Nat->Addr}{XE:Nat->St->Hp->Prop}{YE:Nat->Hp->Prop}{Φ:Nat->List D->R D}{G:List D}{n:Nat}{m fr:Bool}
theorem mS{K:PySem.W.Frag}:∀{r:List Int}{ws:List V},Reps K cl F H (r.map D.int) ws->ws=r.map V.int
 |[],ws,h=>by simpa[Reps] using h
 |x::r,ws,h=>by
  obtain⟨v,t,rfl,h1,h2⟩:=Reps.cons_inv (by simpa using h);have h1:v=.int x:=by simpa only[Rep] using h1
  rw[h1,mS h2];rfl
noncomputable def teCopy(K:PySem.W.Frag)(cl:Nat->Addr):TE:=λσ H Q=>∃F δ r,Sees K cl F H σ δ/\δ[0]?=some (some (false,rowT r))/\∀H' l,Same H H'->H' l=none->Q (.ref l) (upd H' l (.lst (r.map V.int)))
theorem pe_copy(hm:X.mg "list"=none)(iv:OkE X cl (λ_ _ _=>False) Φ G true (.var 0) (.Name x p2))(hg:Gl X "list")(hs:starEach [.Name x p2] X.env=[(false,eval (.Name x p2) X.env)]):
  PE X (.Call (.Name "list" p) [.Name x p2] [] pos) (teCopy X.K cl):=by
 obtain⟨ta,pa,ia⟩:=aU (es:=[]) (as:=[]) hs iv bG;have pe:=eI (p:=p) (pos:=pos) (X:=X) dO hg hm boot_list pa (by decide) (by decide) hs rfl;rintro pins s σ H Q I ⟨F,δ,r,S,e0,q⟩;refine pe pins s σ H Q I ?_;refine ia F σ δ H _ S ?_;have e1:evs Φ G true [.var 0] δ=.ok [rowT r]:=by
  simp only[evs,ev,rdR,e0,yT];rfl
 rw[e1];intro F' vs H' u g;rw[yM rfl] at g;obtain⟨v,rfl,gv⟩:=Paired.one g;obtain⟨a,ws,rfl,h1,r1⟩:=gv.tup;have:=mS r1;subst this;exact⟨a,_,rfl,.inr h1,λl hl=>q H' l u.same hl⟩
theorem Same.up1(h:Same H H'):Up F H F H':=⟨h,λ_ z=>z,λ_ z=>.inl z⟩
theorem pA(hw:∀F σ δ H R,Sees X.K cl F H σ δ->Meet ((evs Φ G true [(.var i)] δ).bind (itemsD .seq)) (λxs=>∀F' H' J P,Up F H F' H'->Wk X.K cl true J xs P->P F' H'->R J H') (λc=>∀F' H',Up F H F' H'->XE c σ H')->wi σ H R)
  (S:Sees X.K cl F H σ δ) (hi:δ[i]?=some (some (b,.lst (Rw.map rowT)))) (hl:Rw.length<=1000)
  (q:∀H' L as,Same H H'->H L=none->(∀a∈as,H a=none)->Nest H' L as Rw->Q (.ref L) H'):
  tComp wi (gName 0) (tO X.K cl (λ_ _ _=>False) Φ G none) (teCopy X.K cl) [] 1 σ H Q:=by
 refine hw F σ δ H _ S ?_;have e:(evs Φ G true [(.var i)] δ).bind (itemsD .seq)=.ok (Rw.map rowT):=by
  have e1:evs Φ G true [(.var i)] δ=.ok [.lst (Rw.map rowT)]:=by
   simp only[evs,ev,rdR,hi,yT];rfl
  rw[e1];show itemsD .seq [.lst (Rw.map rowT)]=_;unfold itemsD;show(if(Rw.map rowT).length<=LIM then R.ok (Rw.map rowT) else R.bad)=_;rw[yM (zB (by simpa using hl) (by decide))]
 rw[e];intro F1 H1 J P u1 W1 p1 L hL;have t1:Trk F1 H1:=(S.up u1).trk;have hsz:(1000:Nat)<sizeLine:=by decide
 refine⟨λj k σ' H'=>k=Rw.length-j/\j<=Rw.length/\σ'.length=1/\Same H1 H'/\∃as:List Addr,as.length=j/\Nest H' L as (Rw.take j)/\∀a∈as,H1 a=none,⟨Rw.length,?_⟩,?_⟩
 ·refine⟨rfl,Nat.zero_le _,by simp[capS],λa o z=>?_,[],rfl,⟨upd_same,by simp,by simp,by simp,by simp⟩,by simp⟩
  rw[aA (by rintro rfl;rw[hL] at z;cases z)];exact z
 ·rintro j k σ' H' ⟨rfl,hj,hσ,sm,as,hal,nst,hfr⟩
  by_cases hlt:j<Rw.length
  ·have pH:P F1 H':=W1.st F1 H1 F1 H' p1 (by unfold Stb;rw[yM rfl];exact sm) λ_ z=>z
   obtain⟨go,yl⟩:=W1.go F1 H' j (rowT Rw[j]) pH (by simp[hlt]);refine .inr ⟨go,λv H2 hy=>?_⟩;obtain⟨u3,rx⟩:=yl v H2 hy;show tO X.K cl (λ_ _ _=>False) Φ G none (σ'.set 0 (some v)) H2 _;refine⟨λ_=>False,[none],⟨by simp[hσ],λ_ z=>z.elim,λa d z=>?_,λa d z=>?_⟩,?_⟩
   ·cases a<;>simp at z
   ·cases a<;>simp at z
   ·simp only[evO]
    intro F4 H4 u4;rw[yM rfl];have s4:Same H' H4:=u3.same.trans u4.same;refine⟨F1,[some (false,rowT Rw[j])],Rw[j],⟨by simp[hσ],t1.up (Same.up1 (sm.trans s4)),λa d z=>?_,λa d z=>?_⟩,rfl,λH5 l s5 hl5=>?_⟩
    ·cases a with
     |zero=>
      have z:rowT Rw[j]=d:=by simpa using z
      subst z;refine⟨v,?_,rx.up (Same.up1 u4.same)⟩;rw[zD (by omega)]
     |succ a=>simp at z
    ·cases a<;>simp at z
    ·have s5':Same H' H5:=s4.trans s5
     have nL:L≠l:=λz=>by
      have:=s5' _ _ nst.top;rw[z,hl5] at this;cases this
     have na:∀a∈as,a≠l:=λa ha z=>by
      obtain⟨c,hc,e⟩:=List.mem_iff_getElem.mp ha;have hc2:c<(Rw.take j).length:=by rw[←nst.len];exact hc
      have:=s5' _ _ (nst.row c a ((Rw.take j)[c]) (by rw[←e];simp[hc]) (yS hc2));rw[z,hl5] at this;cases this
     refine⟨as.map V.ref,Rw.length-(j+1),?_,?_,by omega,rfl,hlt,by simp[hσ],λa o z=>?_,as++[l],by simp[hal],⟨?_,?_,?_,?_,?_⟩,?_⟩
     ·rw[aA nL];exact s5' _ _ nst.top
     ·rw[yI,hal];omega
     ·have z5:=(sm.trans s5') _ _ z
      rw[aA (by rintro rfl;rw[hL] at z;cases z),aA (by rintro rfl;rw[hl5] at z5;cases z5)];exact z5
     ·rw[upd_same];simp
     ·simp[hal];omega
     ·intro c a r h1 h2
      have et:Rw.take (j+1)=Rw.take j++[Rw[j]]:=zJ hlt;rw[et] at h2;by_cases hc:c<j
      ·rw[zG (by omega)] at h1
       rw[zG (by simp;omega)] at h2;have ha:a∈as:=aAA h1;rw[aA (nst.ne a ha),aA (na a ha)];exact s5' _ _ (nst.row c a r h1 h2)
      ·have hc':c<(as++[l]).length:=(List.getElem?_eq_some_iff.mp h1).1
       have hcj:c=j:=by simp[hal] at hc';omega
       subst hcj;have e1:a=l:=by
        rw[zF (by omega)] at h1;simpa[hal] using h1.symm
       have e2:r=Rw[c]:=by
        rw[zF (by rw[zO];omega)] at h2;have hm:min c Rw.length=c:=by omega
        simpa[hm] using h2.symm
       subst e1;rw[aA (zL nL),upd_same,e2]
     ·rw[List.nodup_append]
      refine⟨nst.nd,by simp,λa ha b hb=>?_⟩;have hb:b=l:=by simpa using hb
      rw[hb];exact na a ha
     ·intro a ha
      rcases List.mem_append.mp ha with h|h
      ·exact nst.ne a h
      ·have h:a=l:=by simpa using h
       rw[h];exact zL nL
     ·intro a ha
      rcases List.mem_append.mp ha with h|h
      ·exact hfr a h
      ·have h:a=l:=by simpa using h
       rw[h]
       cases z:H1 l with
       |none=>rfl
       |some o=>have:=(sm.trans s5') _ _ z;rw[hl5] at this;cases this
  ·have hjl:j=Rw.length:=by omega
   subst hjl;rw[zV] at nst;have pH:P F1 H':=W1.st F1 H1 F1 H' p1 (by unfold Stb;rw[yM rfl];exact sm) λ_ z=>z;have st:=W1.stop F1 H' pH;rw[yI] at st;have back:∀a,H1 a=none->H a=none:=λa z=>by
    cases w:H a with
    |none=>rfl
    |some o=>have:=u1.same _ _ w;rw[z] at this;cases this
   exact .inl ⟨st,q H' L as (u1.same.trans sm) (back L hL) (λa ha=>back a (hfr a ha)) nst⟩
end
theorem cut_from(xs:List V)(k:Nat):cutV xs (some (((k:Nat):Int)+1)) none=xs.drop (k+1):=by
 unfold cutV;rw[show(((k:Nat):Int)+1)=((k+1:Nat):Int) by omega,HT.sIx_nat,HT.sIx_none];by_cases h:k+1<=xs.length
 ·rw[Nat.min_eq_left h,zX (by simp)]
 ·rw[Nat.min_eq_right (by omega),List.drop_eq_nil_of_le (by omega),List.drop_eq_nil_of_le (by omega)];simp
theorem mT:∀{xs:List D}{r:List Int},intsI xs=some r->xs=r.map D.int
 |[],r,h=>by simp only[intsI,Option.some.injEq] at h;subst h;rfl
 |.int i::xs,r,h=>by
  simp only[intsI,Option.map_eq_some_iff] at h;obtain⟨q,h1,rfl⟩:=h;rw[mT h1];rfl
 |.non::_,_,h=>by simp[intsI] at h
 |.bl _::_,_,h=>by simp[intsI] at h
 |.str _::_,_,h=>by simp[intsI] at h
 |.tup _::_,_,h=>by simp[intsI] at h
 |.lst _::_,_,h=>by simp[intsI] at h
 |.dic _ _::_,_,h=>by simp[intsI] at h
 |.exn _::_,_,h=>by simp[intsI] at h
 |.scr _::_,_,h=>by simp[intsI] at h
theorem mU:∀{xs:List D}{R:List (List Int)},rowsI xs=some R->xs=R.map rowT
 |[],r,h=>by simp only[rowsI,Option.some.injEq] at h;subst h;rfl
 |.tup i::xs,r,h=>by
  simp only[rowsI,Option.bind_eq_some_iff,Option.map_eq_some_iff] at h;obtain⟨q,h1,R,h2,rfl⟩:=h;rw[mT h1,mU h2];rfl
 |.non::_,_,h=>by simp[rowsI] at h
 |.bl _::_,_,h=>by simp[rowsI] at h
 |.str _::_,_,h=>by simp[rowsI] at h
 |.int _::_,_,h=>by simp[rowsI] at h
 |.lst _::_,_,h=>by simp[rowsI] at h
 |.dic _ _::_,_,h=>by simp[rowsI] at h
 |.exn _::_,_,h=>by simp[rowsI] at h
 |.scr _::_,_,h=>by simp[rowsI] at h
theorem rdV_inv(h:rdV δ i=.ok d):δ[i]?=some (some (false,d)):=by
 unfold rdV at h;split at h
 ·rename_i e;cases h;exact e
 ·cases h
theorem pB{R:List (List Int)}(h:asRows (rdV δ i)=some R):δ[i]?=some (some (false,.lst (R.map rowT))):=by
 cases e:rdV δ i with
 |ok d=>
  rw[e] at h
  cases d with
  |lst xs=>
   have:=mU (show rowsI xs=some R from h);subst this;exact rdV_inv e
  |_=>simp[asRows] at h
 |exc c=>rw[e] at h;simp[asRows] at h
 |bad=>rw[e] at h;simp[asRows] at h
section
variable{X:Cx}{cl:Nat->Addr}{XE:Nat->St->Hp->Prop}{Φ:Nat->List D->R D}{G:List D}{n:Nat}
noncomputable def Copy(X:Cx)(cl:Nat->Addr)(i j:Nat)(st:Stmt):Prop:=∃t,PS X st (tAsg t (gName j))/\∀F σ δ H Q b Rw,Sees X.K cl F H σ δ->δ[i]?=some (some (b,.lst (Rw.map rowT)))->Rw.length<=1000->
 (∀H' L as,Same H H'->H L=none->(∀a∈as,H a=none)->Nest H' L as Rw->Q (.ref L) H')->t σ H Q
end
section
variable{X:Cx}{cl:Nat->Addr}{Φ:Nat->List D->R D}{G:List D}{n:Nat}
theorem p_copyC{i j:Nat}{x y z:Str}{p p2 cp tp zp py spos pos:Pos}{scope:Scope}(N':List Str)(Sc:CompSc X N' [] 1 scope)(hN:X.N.Nodup)(hm:X.mg "list"=none)(hN':N'=[x])
  (hi:OkI X cl (λ_ _ _=>False) Φ G true .seq [.var i] (.Name x tp) (.Name z zp))
  (hg:∀cl' C s H fp,OkG (cxComp X N' scope cl' C s H fp λ_ _=>False) cl [0] (gName 0) (.Name x tp))
  (he:∀cl' C s H fp,OkE (cxComp X N' scope cl' C s H fp λ_ _=>False) cl (λ_ _ _=>False) Φ G true (.var 0) (.Name x p2))
  (hl:∀cl' C s H fp,Gl (cxComp X N' scope cl' C s H fp λ_ _=>False) "list"/\starEach [.Name x p2] (cxComp X N' scope cl' C s H fp λ_ _=>False).env=[(false,eval (.Name x p2) (cxComp X N' scope cl' C s H fp λ_ _=>False).env)])
  (hy:X.N[j]?=some y:=by rfl) (hx:Loc X.env.scope y:=by first|exact Or.inl rfl|exact Or.inr rfl) (hf:X.fn y=true\/X.env.scope.names.lookup y=some .local:=by first|exact .inl rfl|exact .inr rfl)
  (hsw:swapsWith (.ListComp (.Call (.Name "list" p) [.Name x p2] [] cp) [⟨.Name x tp,.Name z zp,[],0⟩] scope pos) (some (.Name y py)) spos.line X.env=pure true:=by rfl)
  (hc:X.calm=true:=by rfl) (hs:∀v,foldedSetIterable (.Name z zp) X.env v=pure v:=by intro _;rfl):
  Copy X cl i j (.Assign [.Name y py] (.ListComp (.Call (.Name "list" p) [.Name x p2] [] cp) [⟨.Name x tp,.Name z zp,[],0⟩] scope pos) spos):=by
 obtain⟨wi,pi,hw⟩:=hi;refine⟨_,fG (tc:=tO X.K cl (λ_ _ _=>False) Φ G none) (te:=teCopy X.K cl) hN hy hx hf hsw hc pi Sc (λcl' C s H fp=>(hg cl' C s H fp).1) (λcl' C s H fp=>mM) (λcl' C s H fp=>pe_copy hm (he cl' C s H fp) (hl cl' C s H fp).1 (hl cl' C s H fp).2) hs,λF σ δ H Q b Rw S hi hl q=>?_⟩;exact pA (X:=X) (XE:=λ_ _ _=>False) hw S hi hl q
theorem aC{i:Nat}{x:Str}{pos:Pos}(hN:X.N[i]?=some x:=by rfl)(hv:Vis X.env.scope x:=by first|exact Or.inl rfl|exact Or.inr (Or.inl rfl)|exact Or.inr (Or.inr rfl))(hd:(x==("__debug__":Str))=false:=by decide)(hcd:(x==("__classdict__":Str))=false:=by decide):PE X (.Name x pos) (tVar i):=gM hN hv hd hcd
end
noncomputable def GlobV(K:PySem.W.Frag)(d:D)(v:V):Prop:=∀(cl:Nat->Addr)(F:Addr->Prop)(H:Hp),Rep K cl F H d v
theorem bY{K:PySem.W.Frag}:GlobV K (.int i) (.int i):=λ_ _ _=>by simp[Rep]
theorem qY{K:PySem.W.Frag}:∀{ds:List D}{vs:List V},Paired (GlobV K) ds vs->∀(cl:Nat->Addr)(F:Addr->Prop)(H:Hp),Reps K cl F H ds vs
 |_,_,.nil,_,_,_=>Reps.nil
 |_,_,.cons a r,cl,F,H=>Reps.cons (a cl F H) (qY r cl F H)
theorem cV{K:PySem.W.Frag}(hl:K.lookup a=some ⟨.type "tuple",od,.seq us.toArray k,sl⟩)(hv:Vals vs us)(hd:Paired (GlobV K) ds vs)(hn:us.length<=sizeLine):GlobV K (.tup ds) (.ref a):=λcl F H=>by
 simp only[Rep];exact⟨a,vs,rfl,.inr ⟨_,_,_,hl,rfl,rfl,by simpa using hn,by simpa using hv⟩,qY hd cl F H⟩
theorem globT_v{K:PySem.W.Frag}(hm:mg x=some (.ref a))(g:GlobV K d (.ref a)):GlobT K mg x d:=⟨.ref a,.ref a,hm,rfl,g⟩
theorem sc_mk{N P:List Str}{sc:Scope}(h1:sc.kind=.function:=by rfl)(h2:sc.isCoroutine=false:=by rfl)(h3:sc.isGenerator=false:=by rfl)(h4:N.Nodup:=by decide+kernel)(h5:N.take P.length=P:=by rfl)(h6:∀x∈P,sc.names.lookup x=some .local\/sc.names.lookup x=some .cell:=by decide+kernel)(h7:∀y∈sc.names,y.2≠.free:=by decide+kernel):FnScope N P sc:=⟨h1,h2,h3,h4,h5,h6,h7⟩
theorem aY(hr:Room (j+1) A):A.units+20<cLine:=Nat.lt_of_le_of_lt (Nat.add_le_add_left (by decide) _) hr.units
end L2.Snd
namespace L2
open PySem PySem.Spec PyProof.Rows
section
variable{X:Cx}{pins:List (Addr×Obj)}{σ:St}{H:Hp}{s:Shared}{d:Addr}{o:Obj}{u u':HO}{kvs:List (Key×V)}
theorem Inv.retag(I:Inv X pins σ H s)(hd:H d=some u)(n1:∀xs,u≠.tup xs)(n2:∀x,u≠.own x)(n3:∀ps,u≠.tbl ps)(hz:∀ob v,X.H₀ d≠some (.frz ob v))(new:ObjOk X.prog X.w (upd H d u') s.heap d u'):Inv X pins σ (upd H d u') s:=by
 have nn:∀b,H b=none->upd H d u' b=none:=λb e=>by rw[aA (by rintro rfl;rw[hd] at e;cases e)];exact e
 refine⟨I.ok,I.os,I.bare,⟨I.base.keep,I.base.slot,λb ob e n hx=>nn b (I.base.free b ob e n hx),I.base.there,λb xs e=>?_,λb ob v e=>?_,λb ps e=>?_⟩,I.loc,I.cell,nn _ I.free,λx c e=>nn _ (I.freeC x c e),λp hp=>?_,λb v e=>?_,I.len⟩
 ·have:=I.base.tups b xs e
  rw[aA (by rintro rfl;rw[hd] at this;exact n1 _ (y8 this))];exact this
 ·rw[aA (by rintro rfl;exact hz _ _ e)];exact I.base.frzs b ob v e
 ·obtain⟨more,this⟩:=I.base.tbls b ps e
  exact⟨more,by rw[aA (by rintro rfl;rw[hd] at this;exact n3 _ (y8 this))];exact this⟩
 ·obtain⟨p1,p2,p3,p4,p5⟩:=I.pin p hp
  exact⟨p1,nn _ p2,p3,p4,p5⟩
 ·by_cases hb:b=d
  ·subst hb
   rw[upd_same] at e;cases e;exact new
  ·rw[aA hb] at e
   refine(I.hok b v e).stay (λc w _ r=>r) (λc r=>?_) λc xs r=>?_
   ·rw[aA (by rintro rfl;rw[hd] at r;exact n2 _ (y8 r))];exact r
   ·rw[aA (by rintro rfl;rw[hd] at r;exact n1 _ (y8 r))];exact r
theorem KV.at{l:List (κ×V)}{r:List (κ×Value)}{i:Nat}{p:κ×V}(k:KV l r)(e:l[i]?=some p):∃q,r[i]?=some (p.1,q)/\RelV p.2 q:=by
 unfold KV at k
 induction k generalizing i with
 |nil=>simp at e
 | @cons a b x y h t ih=>
  cases i with
  |zero=>
   simp only[List.getElem?_cons_zero,Option.some.injEq] at e;subst e;refine⟨b.2,?_,h.2⟩;show some b=some (a.1,b.2);rw[h.1]
  |succ i=>simpa using ih (by simpa using e)
end
end L2
namespace L2.Snd
open PySem PySem.Spec PyProof.Rows L2 Py
end L2.Snd
namespace L2
open PySem PySem.Spec PyProof.Rows
theorem g5:∀{ys:List Int}{its:List Value},Vals (ys.map V.int) its->∃ps:List (Int×Tok),its=ps.map (λp=>Value.int p.1 p.2)/\ps.map (·.1)=ys
 |[],its,r=>by cases r;exact⟨[],rfl,rfl⟩
 |y::ys,its,r=>by
  cases r with
  |cons r1 r2=>
   obtain⟨t,rfl⟩:=r1;obtain⟨ps,rfl,rfl⟩:=g5 r2;exact⟨(y,t)::ps,rfl,rfl⟩
variable{X:Cx}
theorem cW{ps:List (Int×Tok)}(h:i<ps.length):numAt ps.toArray i=(ps.map (·.1))[i]'(by simpa using h):=by
 simp[numAt,h]
theorem tI(hc:X.calm=true):CallR X (.builtin "max") (λxs H Q=>∃(p:Addr)(ys:List Int),xs=[.ref p]/\SqL X.K H p (ys.map V.int)/\0<ys.length/\∀M,M∈ys->(∀a∈ys,a<=M)->Q (.int M) H):=by
 intro pins s σ H xs us Q I r h;obtain⟨p,ys,rfl,hq,hl,q⟩:=h;obtain⟨u,rfl,rx⟩:=vals1 r;cases rx;obtain⟨its,r',pl,hz⟩:=I.list hq;obtain⟨ps,rfl,rfl⟩:=g5 r';have hn:0<ps.length:=by simpa using hl
 refine max_intList (xs:=ps.toArray) (I.ok.hd hc) (by have:=pl.isList;simpa[intItems] using this) (by simpa using hn) λv h' tk hv k=>?_;obtain⟨b1,b2⟩:=argBest_gt (numAt ps.toArray) (ps.toArray.size-1);generalize argBest (λi j=>decide (numAt ps.toArray i>numAt ps.toArray j)) (ps.toArray.size-1)=j at*;have hj:j<ps.length:=by simp at b1;omega
 have hv':v=.int (numAt ps.toArray j) (ps[j].2):=by
  have:(ps.map λp=>Value.int p.1 p.2)[j]?=some v:=by simpa[intItems] using hv
  rw[zE,yS hj] at this;rw[cW hj];simpa using this.symm
 subst hv';refine⟨.int (numAt ps.toArray j),H,I.kept k,⟨_,rfl⟩,q _ ?_ λa ha=>?_⟩
 ·rw[cW hj];exact zS _
 ·obtain⟨i,hi,rfl⟩:=List.mem_iff_getElem.mp ha
  have hi':i<ps.length:=by simpa using hi
  rw[←cW hi'];exact b2 i (by simp;omega)
end L2
namespace L2.Snd
open PySem PySem.Spec PyProof.Rows L2 Py
end L2.Snd
namespace L2
open PySem PyProof.Rows
variable{X:Cx}
end L2
namespace L2.Snd
open PySem PySem.Spec PyProof.Rows L2 Py
end L2.Snd
namespace Py
theorem jX:rings []=0:=rfl
theorem bB(a b:Int)(r:List (Int×Int)):rings ((a,b)::r)=(if a=b then 1 else 0)+rings (r.map (sb2 a b)):=by
 simp[rings,rgs]
noncomputable def names(l:List (Int×Int)):List Int:=l.flatMap λp=>[p.1,p.2]
noncomputable def mp(f:Int->Int)(p:Int×Int):Int×Int:=(f p.1,f p.2)
theorem mV(h:x∈names (l.map (sb2 a b))):x=a\/x∈names l:=by
 simp only[names,List.mem_flatMap,List.mem_map,zA,List.not_mem_nil,or_false] at h⊢;obtain⟨_,⟨p,hp,rfl⟩,h⟩:=h;simp only[sb2,sb] at h;rcases h with h|h
 ·split at h
  ·exact .inl h
  ·exact .inr ⟨p,hp,.inl h⟩
 ·split at h
  ·exact .inl h
  ·exact .inr ⟨p,hp,.inr h⟩
theorem eO(h:p∈l):p.1∈names l/\p.2∈names l:=by
 simp only[names,List.mem_flatMap,zA,List.not_mem_nil,or_false];exact⟨⟨p,h,.inl rfl⟩,⟨p,h,.inr rfl⟩⟩
theorem jY(f:Int->Int):∀(n:Nat)(l:List (Int×Int)),l.length=n->(∀x∈names l,∀y∈names l,f x=f y->x=y)->rings (l.map (mp f))=rings l
 |0,[],_,_=>rfl
 |n+1,(a,b)::r,hn,h=>by
  have ma:a∈names ((a,b)::r):=(eO yZ).1;have mb:b∈names ((a,b)::r):=(eO (p:=(a,b)) yZ).2;have mr:∀x∈names r,x∈names ((a,b)::r):=λx hx=>by
   simp only[names,List.flatMap_cons,List.mem_append];exact .inr hx
  show rings ((f a,f b)::r.map (mp f))=_;rw[bB,bB];have e1:(f a=f b)↔a=b:=⟨h a ma b mb,λe=>by rw[e]⟩
  have e2:(r.map (mp f)).map (sb2 (f a) (f b))=(r.map (sb2 a b)).map (mp f):=by
   rw[zY,zY];refine aAE λp hp=>?_;have q:=eO hp;have g:∀x∈names r,sb (f a) (f b) (f x)=f (sb a b x):=λx hx=>by
    unfold sb;by_cases hx':x=b
    ·rw[yM hx',yM (by rw[hx'])]
    ·rw[yK hx',yK λe=>hx' (h x (mr x hx) b mb e)]
   simp only[Function.comp,mp,sb2];rw[g _ q.1,g _ q.2]
  rw[e2,jY f n (r.map (sb2 a b)) (by rw[yI];simpa using hn) λx hx y hy=>by
   have hx':x∈names ((a,b)::r):=(mV hx).elim (λe=>e▸ma) (mr x);have hy':y∈names ((a,b)::r):=(mV hy).elim (λe=>e▸ma) (mr y);exact h x hx' y hy']
  simp only[e1]
noncomputable def waysL:Nat->List (List Int)
 |0=>[[]]
 |n+1=>(waysL n).map (· ++[0])++(waysL n).map (· ++[1])
noncomputable def sumF{α:Type}(g:α->Int)(l:List α):Int:=(l.map g).sum
theorem mW(g:α->Int)(a b:List α):sumF g (a++b)=sumF g a+sumF g b:=by
 simp[sumF,zW,List.sum_append]
theorem dU(g:β->Int)(f:α->β)(a:List α):sumF g (a.map f)=sumF (λx=>g (f x)) a:=by
 simp[sumF,Function.comp_def]
theorem tJ(g:α->Int)(x:α)(a:List α):sumF g (x::a)=g x+sumF g a:=by simp[sumF]
theorem cX{α:Type}{g f:α->Int}{l:List α}(h:∀x∈l,g x=f x):sumF g l=sumF f l:=by
 unfold sumF;rw[aAE h]
theorem eP:∀(n:Nat)(g:List Int->Int),sumF g (waysL (n+1))=sumF (λw=>g (0::w)) (waysL n)+sumF (λw=>g (1::w)) (waysL n)
 |0,g=>by simp[waysL,sumF]
 |n+1,g=>by
  have e:sumF g (waysL (n+2))=sumF (λw=>g (w++[0])) (waysL (n+1))+sumF (λw=>g (w++[1])) (waysL (n+1)):=by
   show sumF g ((waysL (n+1)).map (· ++[0])++(waysL (n+1)).map (· ++[1]))=_;rw[mW,dU,dU]
  rw[e,eP n,eP n];have e2:∀c:Int,sumF (λw=>g (c::w)) (waysL (n+1))=sumF (λw=>g (c::(w++[0]))) (waysL n)+sumF (λw=>g (c::(w++[1]))) (waysL n):=λc=>by
   show sumF _ ((waysL n).map (· ++[0])++(waysL n).map (· ++[1]))=_;rw[mW,dU,dU]
  rw[e2,e2];simp only[List.cons_append];omega
theorem g6:∀(n:Nat)(w:List Int),w∈waysL n->w.length=n
 |0,w,h=>by simp[waysL] at h;simp[h]
 |n+1,w,h=>by
  simp only[waysL,List.mem_append,List.mem_map] at h;rcases h with⟨v,hv,rfl⟩|⟨v,hv,rfl⟩<;>simp[g6 n v hv]
noncomputable abbrev Po:=Int->Int
noncomputable def mono(p:Int):Po:=λi=>if i=p then 1 else 0
noncomputable def tr(f:Po):Po:=λi=> -(f (i-2))-f (i+2)
noncomputable def trs:Nat->Po->Po
 |0,f=>f
 |n+1,f=>tr (trs n f)
noncomputable def shf(k:Int)(f:Po):Po:=λi=>f (i-k)
theorem tr_shf(k:Int)(f:Po):tr (shf k f)=shf k (tr f):=by
 funext i;show-(f (i-2-k))-f (i+2-k)= -(f (i-k-2))-f (i-k+2);rw[show i-2-k=i-k-2 by omega,show i+2-k=i-k+2 by omega]
theorem gC(k:Int)(f:Po):∀n,trs n (shf k f)=shf k (trs n f)
 |0=>rfl
 |n+1=>by show tr (trs n (shf k f))=shf k (tr (trs n f));rw[gC k f n,tr_shf]
theorem g7(p k:Int):mono (p+k)=shf k (mono p):=by
 funext i;simp only[mono,shf];by_cases h:i=p+k
 ·rw[yM h,yM (by omega)]
 ·rw[yK h,yK (by omega)]
noncomputable abbrev X4:=Int×Int×Int×Int
noncomputable def prs(r:X4)(w:Int):List (Int×Int):=if w=0 then[(r.1,r.2.1),(r.2.2.1,r.2.2.2)] else[(r.1,r.2.2.2),(r.2.1,r.2.2.1)]
noncomputable def pairsW:List X4->List Int->List (Int×Int)
 |r::rs,w::ws=>prs r w++pairsW rs ws
 |_,_=>[]
noncomputable def sb4(a b:Int)(r:X4):X4:=(sb a b r.1,sb a b r.2.1,sb a b r.2.2.1,sb a b r.2.2.2)
noncomputable def mp4(f:Int->Int)(r:X4):X4:=(f r.1,f r.2.1,f r.2.2.1,f r.2.2.2)
theorem prs_map(f:Int->Int)(r:X4)(w:Int):(prs r w).map (mp f)=prs (mp4 f r) w:=by
 unfold prs;split<;>rfl
theorem bN(f:Int->Int):∀(rs:List X4)(ws:List Int),(pairsW rs ws).map (mp f)=pairsW (rs.map (mp4 f)) ws
 |[],_=>rfl
 |_::_,[]=>rfl
 |r::rs,w::ws=>by
  show(prs r w++pairsW rs ws).map (mp f)=prs (mp4 f r) w++pairsW (rs.map (mp4 f)) ws;rw[zW,prs_map,bN f rs ws]
noncomputable def tot(rs:List X4)(g:Nat):Po:=λi=>sumF (λw=>trs (g+rings (pairsW rs w)) (mono (rs.length-2*w.sum)) i) (waysL rs.length)
theorem tot_nil(g:Nat):tot [] g=trs g (mono 0):=by
 funext i;simp[tot,waysL,sumF,pairsW,jX]
noncomputable def join2(p q:Int×Int)(rs:List X4):List X4:=(rs.map (sb4 p.1 p.2)).map (sb4 (sb p.1 p.2 q.1) (sb p.1 p.2 q.2))
noncomputable def won2(p q:Int×Int):Nat:=(if p.1=p.2 then 1 else 0)+(if sb p.1 p.2 q.1=sb p.1 p.2 q.2 then 1 else 0)
theorem fJ(p q:Int×Int)(rs:List X4)(ws:List Int):rings (p::q::pairsW rs ws)=won2 p q+rings (pairsW (join2 p q rs) ws):=by
 obtain⟨a,b⟩:=p;obtain⟨c,d⟩:=q;rw[bB];show _+rings ((sb a b c,sb a b d)::(pairsW rs ws).map (mp (sb a b)))=_;rw[bB,bN];show _+(_+rings ((pairsW _ ws).map (mp (sb (sb a b c) (sb a b d)))))=_;rw[bN];simp only[won2,join2];have e:∀x y:Int,mp4 (sb x y)=sb4 x y:=λ_ _=>rfl;rw[e,e];omega
theorem sum_cons(w:Int)(ws:List Int):(w::ws).sum=w+ws.sum:=by simp
theorem tK(r:X4)(rs:List X4)(g:Nat)(i:Int):tot (r::rs) g i=
  tot (join2 (r.1,r.2.1) (r.2.2.1,r.2.2.2) rs) (g+won2 (r.1,r.2.1) (r.2.2.1,r.2.2.2)) (i-1)+tot (join2 (r.1,r.2.2.2) (r.2.1,r.2.2.1) rs) (g+won2 (r.1,r.2.2.2) (r.2.1,r.2.2.1)) (i+1):=by
 have hl:∀p q,(join2 p q rs).length=rs.length:=λp q=>by simp[join2]
 unfold tot;rw[yJ,eP,hl,hl]
 congr 1
 ·refine cX λw _=>?_
  rw[show pairsW (r::rs) (0::w)=(r.1,r.2.1)::(r.2.2.1,r.2.2.2)::pairsW rs w from rfl,fJ,←Nat.add_assoc,sum_cons,
   show(((rs.length+1:Nat):Int)-2*(0+w.sum))=((rs.length:Int)-2*w.sum)+1 by omega,g7,gC]
  rfl
 ·refine cX λw _=>?_
  rw[show pairsW (r::rs) (1::w)=(r.1,r.2.2.2)::(r.2.1,r.2.2.1)::pairsW rs w from rfl,fJ,←Nat.add_assoc,sum_cons,
   show(((rs.length+1:Nat):Int)-2*(1+w.sum))=((rs.length:Int)-2*w.sum)+(-1) by omega,g7,gC]
  show trs _ _ (i-(-1))=_;rw[show i-(-1)=i+1 by omega]
noncomputable def nm4(r:X4):List Int:=[r.1,r.2.1,r.2.2.1,r.2.2.2]
theorem bO:∀(rs:List X4)(ws:List Int)(x:Int),x∈names (pairsW rs ws)->x∈rs.flatMap nm4
 |[],_,x,h=>by simp[pairsW,names] at h
 |_::_,[],x,h=>by simp[pairsW,names] at h
 |r::rs,w::ws,x,h=>by
  have h':x∈names (prs r w)\/x∈names (pairsW rs ws):=by simpa[pairsW,names,List.flatMap_append] using h
  simp only[List.flatMap_cons,List.mem_append];rcases h' with h|h
  ·left
   unfold prs at h;split at h<;>· simp only[names,List.flatMap_cons,List.flatMap_nil,List.mem_append,zA,List.not_mem_nil,or_false] at h;simp only[nm4,zA,List.not_mem_nil,or_false];grind
  ·exact .inr (bO rs ws x h)
theorem tot_inj(f:Int->Int)(rs:List X4)(g:Nat)(h:∀x∈rs.flatMap nm4,∀y∈rs.flatMap nm4,f x=f y->x=y):tot (rs.map (mp4 f)) g=tot rs g:=by
 funext i;unfold tot;rw[yI];refine cX λw _=>?_;rw[←bN,jY f _ _ rfl λx hx y hy=>h x (bO _ _ _ hx) y (bO _ _ _ hy)]
noncomputable def cc:List Int->Int->Po
 |[],_,_=>0
 |x::xs,q,i=>(if i=q then x else 0)+cc xs (q-4) i
noncomputable def adds:List Int->List Int->List Int
 |x::xs,y::ys=>(x+y)::adds xs ys
 |[],ys=>ys
 |xs,[]=>xs
theorem qZ:∀(a b:List Int)(q i:Int),cc (adds a b) q i=cc a q i+cc b q i
 |[],b,q,i=>by cases b<;>simp[adds,cc]
 |x::xs,[],q,i=>by simp[adds,cc]
 |x::xs,y::ys,q,i=>by
  simp only[adds,cc,qZ xs ys];split<;>omega
theorem q5:∀(a:List Int)(q i:Int),cc (a++[0]) q i=cc a q i
 |[],q,i=>by simp[cc]
 |x::xs,q,i=>by simp only[List.cons_append,cc,q5 xs]
theorem cc_0(a:List Int)(q i:Int):cc (0::a) q i=cc a (q-4) i:=by simp[cc]
theorem g8:∀(a:List Int)(q k i:Int),cc a q (i-k)=cc a (q+k) i
 |[],_,_,_=>rfl
 |x::xs,q,k,i=>by
  simp only[cc];rw[g8 xs,show q-4+k=q+k-4 by omega]
  congr 1
  by_cases h:i-k=q
  ·rw[yM h,yM (by omega)]
  ·rw[yK h,yK (by omega)]
noncomputable def nxt(a:List Int):List Int:=adds (a++[0]) (0::a)
noncomputable def chs:Nat->List Int
 |0=>[1]
 |n+1=>nxt (chs n)
noncomputable def sg(n:Nat):Int:=1-2*((n:Int)%2)
theorem sg_succ(n:Nat):sg (n+1)= -sg n:=by unfold sg;omega
theorem pC(p:Int):∀(n:Nat)(i:Int),trs n (mono p) i=sg n*cc (chs n) (p+2*n) i
 |0,i=>by
  have h:sg 0=1:=rfl;simp[trs,mono,chs,cc,h]
 |n+1,i=>by
  show-(trs n (mono p) (i-2))-trs n (mono p) (i+2)=_;rw[pC p n,pC p n,g8,show i+2=i-(-2) by omega,g8,sg_succ];show _= -sg n*cc (adds (chs n++[0]) (0::chs n)) _ i;rw[qZ,q5,cc_0,show p+2*((n+1:Nat):Int)=p+2*n+2 by omega,show p+2*(n:Int)+2-4=p+2*n+ -2 by omega,Int.neg_mul,Int.mul_add];omega
noncomputable def nbr:List Int->List Int
 |x::y::r=>(x+y)::nbr (y::r)
 |_=>[]
theorem g9:∀(x:Int)(r:List Int),adds (r++[0]) (x::r)=nbr (x::r)++[(x::r).getLast (List.cons_ne_nil _ _)]
 |x,[]=>by simp[adds,nbr]
 |x,y::r=>by
  show adds (y::(r++[0])) (x::y::r)=(x+y)::(nbr (y::r)++[_]);rw[List.getLast_cons (List.cons_ne_nil _ _),←g9 y r];show(y+x)::adds (r++[0]) (y::r)=_;rw[Int.add_comm]
theorem hJ:∀n,∃r,chs n=1::r/\(1::r).getLast (List.cons_ne_nil _ _)=1/\r.length=n
 |0=>⟨[],rfl,rfl,rfl⟩
 |n+1=>by
  obtain⟨r,h1,h2,h3⟩:=hJ n;refine⟨nbr (1::r)++[1],?_,by rw[List.getLast_cons (by simp)];simp,?_⟩
  ·show nxt (chs n)=_
   rw[h1,nxt];show((1:Int)+0)::adds (r++[0]) (1::r)=_;rw[g9,h2];rfl
  ·have:∀(x:Int)(r:List Int),(nbr (x::r)).length=r.length:=by
    intro x r
    induction r generalizing x with
    |nil=>rfl
    |cons y r ih=>simp[nbr,ih]
   simp[this,h3]
theorem wB(n:Nat):chs (n+1)=[1]++nbr (chs n)++[1]:=by
 obtain⟨r,h1,h2,h3⟩:=hJ n;show nxt (chs n)=_;rw[h1,nxt];show((1:Int)+0)::adds (r++[0]) (1::r)=_;rw[g9,h2];rfl
theorem bE(n:Nat):(chs n).length=n+1:=by
 obtain⟨r,h1,h2,h3⟩:=hJ n;rw[h1,yJ,h3]
section
variable{κ:Type}[DecidableEq κ]
noncomputable def wgt(g:κ->Int)(t:List (κ×Int)):Int:=sumF (λx=>x.2*g x.1) t
noncomputable def keysNd(t:List (κ×Int)):Prop:=(t.map (·.1)).Nodup
noncomputable def val(t:List (κ×Int))(k:κ):Int:=wgt (λj=>if j=k then 1 else 0) t
theorem bP(g:κ->Int):wgt g []=0:=rfl
theorem wgt_cons(g:κ->Int)(a:κ)(m:Int)(r:List (κ×Int)):wgt g ((a,m)::r)=m*g a+wgt g r:=by simp[wgt,sumF]
theorem dW(g:κ->Int):∀(t:List (κ×Int))(k:κ)(n:Int),wgt g (addA t k n)=wgt g t+n*g k
 |[],k,n=>by simp[addA,wgt_cons,bP]
 |(a,m)::r,k,n=>by
  unfold addA;split
  ·rename_i h
   rw[wgt_cons,wgt_cons,h,Int.add_mul];omega
  ·rw[wgt_cons,wgt_cons,dW g r k n];omega
theorem aZ:∀(t:List (κ×Int))(k:κ)(n:Int),(addA t k n).map (·.1)=if k∈t.map (·.1) then t.map (·.1) else t.map (·.1)++[k]
 |[],k,n=>by simp[addA]
 |(a,m)::r,k,n=>by
  unfold addA;by_cases h:a=k
  ·rw[yM h];simp[h]
  ·have h':¬k=a:=λe=>h e.symm
   rw[yK h];simp only[yQ,aZ r k n,zA,h',false_or];split<;>simp
theorem aQ(h:keysNd t)(k:κ)(n:Int):keysNd (addA t k n):=by
 unfold keysNd at h⊢;rw[aZ];split
 ·exact h
 ·rename_i hk
  rw[List.nodup_append];refine⟨h,by simp,λa ha b hb=>?_⟩;simp only[List.mem_singleton] at hb;subst hb;rintro rfl;exact hk ha
theorem bZ{k j:κ}(h:j∈(addA t k n).map (·.1)):j∈t.map (·.1)\/j=k:=by
 rw[aZ] at h;split at h
 ·exact .inl h
 ·simp only[List.mem_append,List.mem_singleton] at h;exact h
theorem b6(a:κ)(m:Int)(r:List (κ×Int))(k:κ):val ((a,m)::r) k=(if a=k then m else 0)+val r k:=by
 unfold val;rw[wgt_cons];split<;>simp
theorem dX:∀{t:List (κ×Int)}{k:κ},k∉t.map (·.1)->val t k=0
 |[],k,_=>rfl
 |(a,m)::r,k,h=>by
  simp only[yQ,zA,not_or] at h;rw[b6,yK λe=>h.1 e.symm,dX h.2];rfl
theorem b7(t:List (κ×Int))(k:κ)(n:Int)(j:κ):val (addA t k n) j=val t j+(if k=j then n else 0):=by
 unfold val;rw[dW];split<;>simp
noncomputable def look(t:List (κ×Int))(k:κ):Option Int:=(t.find? λx=>decide (x.1=k)).map (·.2)
end
theorem wC:∀(t f:List (Int×Int))(i:Int),val (t.foldl (λf x=>addA (addA f (x.1+2) (-x.2)) (x.1+ -2) (-x.2)) f) i=val f i-val t (i-2)-val t (i+2)
 |[],f,i=>by simp[val,bP]
 |(p,n)::r,f,i=>by
  rw[List.foldl_cons,wC r,b7,b7,b6,b6];have e1:(p+2=i)↔p=i-2:=by omega
  have e2:(p+ -2=i)↔p=i+2:=by omega
  simp only[e1,e2];split<;>split<;>omega
theorem tmR_val(t:List (Int×Int)):val (tmR t)=tr (val t):=by
 funext i;show val (t.foldl _ []) i=_;rw[wC];show 0-_-_= -(val t (i-2))-val t (i+2);omega
theorem dY{κ α:Type}[DecidableEq κ](f:List (κ×Int)->α->List (κ×Int))(hf:∀t x,keysNd t->keysNd (f t x)):∀(l:List α)(t:List (κ×Int)),keysNd t->keysNd (l.foldl f t)
 |[],t,h=>h
 |x::l,t,h=>dY f hf l _ (hf t x h)
theorem eQ(t:List (Int×Int)):keysNd (tmR t):=dY _ (λt x h=>aQ (aQ h _ _) _ _) t [] z0
theorem putA_val:∀(t f:List (Int×Int))(i:Int),val (putA f t) i=val f i+val t i
 |[],f,i=>by simp[putA,val,bP]
 |(p,n)::r,f,i=>by
  show val (putA (addA f p n) r) i=_;rw[putA_val r,b7,b6];omega
theorem gD(h:keysNd f)(t:List (Int×Int)):keysNd (putA f t):=dY _ (λt x h=>aQ h _ _) t f h
noncomputable def sumR(b:Nat->List (Int×Int)):Nat->List (Int×Int)->List (Int×Int)
 |0,f=>f
 |n+1,f=>sumR b n (putA (tmR f) (b n))
noncomputable def horn(b:Nat->Po):Nat->Po
 |0=>λ_=>0
 |n+1=>λi=>horn b n i+trs n (b n) i
theorem tr_add(f g:Po):tr (λi=>f i+g i)=λi=>tr f i+tr g i:=by
 funext i;simp only[tr];omega
theorem q9(f g:Po):∀n,trs n (λi=>f i+g i)=λi=>trs n f i+trs n g i
 |0=>rfl
 |n+1=>by
  show tr (trs n _)=_;rw[q9 f g n,tr_add];rfl
theorem wD(f:Po):∀n,trs n (tr f)=trs (n+1) f
 |0=>rfl
 |n+1=>by show tr (trs n (tr f))=_;rw[wD f n];rfl
theorem mX(b:Nat->List (Int×Int)):∀(n:Nat)(f:List (Int×Int))(i:Int),val (sumR b n f) i=trs n (val f) i+horn (λk=>val (b k)) n i
 |0,f,i=>by simp[sumR,trs,horn]
 |n+1,f,i=>by
  show val (sumR b n (putA (tmR f) (b n))) i=_;rw[mX b n];have e:val (putA (tmR f) (b n))=λi=>tr (val f) i+val (b n) i:=by
   funext i;rw[putA_val,tmR_val]
  rw[e,q9,wD];show _+_+_=_+(_+trs n (val (b n)) i);omega
theorem rA(b:Nat->List (Int×Int)):∀(n:Nat)(f:List (Int×Int)),keysNd f->keysNd (sumR b n f)
 |0,f,h=>h
 |n+1,f,h=>rA b n _ (gD (eQ f) _)
theorem gE(x y:Int):∀l:List Int,y∈ins x l↔y=x\/y∈l
 |[]=>by simp[ins]
 |z::r=>by
  unfold ins;split
  ·simp
  ·simp only[zA,gE x y r]
   constructor
   ·rintro(h|h|h)
    ·exact .inr (.inl h)
    ·exact .inl h
    ·exact .inr (.inr h)
   ·rintro(h|h|h)
    ·exact .inr (.inl h)
    ·exact .inl h
    ·exact .inr (.inr h)
theorem bJ(y:Int):∀l:List Int,y∈sortI l↔y∈l
 |[]=>by simp[sortI]
 |z::r=>by
  show y∈ins z (sortI r)↔_;rw[gE,bJ y r,zA]
theorem mY:∀{a b:List Int},a.Pairwise (· <·)->b.Pairwise (· <·)->(∀x,x∈a↔x∈b)->a=b
 |[],[],_,_,_=>rfl
 |[],y::b,_,_,h=>by simpa using(h y).mpr (by simp)
 |x::a,[],_,_,h=>by simpa using(h x).mp (by simp)
 |x::a,y::b,ha,hb,h=>by
  rw[List.pairwise_cons] at ha hb;have hxy:x=y:=by
   have h1:=(h x).mp (by simp);have h2:=(h y).mpr (by simp);rcases List.mem_cons.mp h1 with e|e
   ·exact e
   ·rcases List.mem_cons.mp h2 with e'|e'
    ·exact e'.symm
    ·have:=hb.1 x e
     have:=ha.1 y e';omega
  subst hxy
  congr 1
  refine mY ha.2 hb.2 λz=>?_;have hz:=h z;simp only[zA] at hz;constructor
  ·intro m
   rcases hz.mp (.inr m) with e|e
   ·subst e;have:=ha.1 z m;omega
   ·exact e
  ·intro m
   rcases hz.mpr (.inr m) with e|e
   ·subst e;have:=hb.1 z m;omega
   ·exact e
noncomputable def told(v:Po)(s:List Int):List (Int×Int):=(s.filter λi=>decide (v i≠0)).map λi=>(i,v i)
theorem wE(h:s.Pairwise (· <·))(h':s'.Pairwise (· <·))(z:∀i,v i≠0->i∈s)(z':∀i,v i≠0->i∈s'):told v s=told v s':=by
 unfold told
 congr 1
 refine mY (h.filter _) (h'.filter _) λi=>?_;simp only[List.mem_filter,zQ];exact⟨λq=>⟨z' i q.2,q.2⟩,λq=>⟨z i q.2,q.2⟩⟩
section
variable(sp:Int->Sx->Sx)(T:Sx->Po)(gd:Sx->Prop)
noncomputable def spl1(f:List (Sk×Int))(x:Sk×Int):List (Sk×Int):=addA (addA f (sp 0 x.1.1,x.1.2+1) x.2) (sp 1 x.1.1,x.1.2+ -1) x.2
noncomputable def spl(t:List (Sk×Int)):List (Sk×Int):=t.foldl (spl1 sp) []
noncomputable def wT(i:Int)(k:Sk):Int:=T k.1 (i-k.2)
structure Splits:Prop where
 sum:∀s,gd s->s.1≠[]->∀i,T s i=T (sp 0 s) (i-1)+T (sp 1 s) (i+1)
 len:∀w s,gd s->s.1≠[]->(sp w s).1.length+1=s.1.length
 gd:∀w s,gd s->s.1≠[]->gd (sp w s)
variable{sp T gd}
noncomputable def allG(gd:Sx->Prop)(n:Nat)(t:List (Sk×Int)):Prop:=∀k∈t.map (·.1),gd k.1/\k.1.1.length=n
theorem wF(h:Splits sp T gd)(i:Int):∀(t f:List (Sk×Int)),(∀k∈t.map (·.1),gd k.1/\k.1.1≠[])->wgt (wT T i) (t.foldl (spl1 sp) f)=wgt (wT T i) f+wgt (wT T i) t
 |[],f,_=>by simp[bP]
 |((s,p),n)::r,f,hn=>by
  have hs:=hn (s,p) (by simp);rw[List.foldl_cons,wF h i r _ λk hk=>hn k (by simp only[yQ,zA];exact .inr hk),wgt_cons,spl1,dW,dW];have e:wT T i (s,p)=wT T i (sp 0 s,p+1)+wT T i (sp 1 s,p+ -1):=by
   show T s (i-p)=T (sp 0 s) (i-(p+1))+T (sp 1 s) (i-(p+ -1));rw[h.sum s hs.1 hs.2 (i-p),show i-(p+1)=i-p-1 by omega,show i-(p+ -1)=i-p+1 by omega]
  rw[e,Int.mul_add];show wgt _ f+n*wT T i (sp 0 s,p+1)+n*wT T i (sp 1 s,p+ -1)+wgt _ r=_;omega
theorem k8(h:Splits sp T gd):∀(t f:List (Sk×Int)),allG gd (n+1) t->allG gd n f->allG gd n (t.foldl (spl1 sp) f)
 |[],f,_,hf=>hf
 |((s,p),m)::r,f,ht,hf=>by
  have hs:=ht (s,p) (by simp);have hs':s.1≠[]:=λe=>by have:=hs.2;rw[e] at this;cases this
  have hl:s.1.length=n+1:=hs.2;refine k8 h r _ (λk hk=>ht k (by simp only[yQ,zA];exact .inr hk)) λk hk=>?_;rcases bZ hk with hk|rfl
  ·rcases bZ hk with hk|rfl
   ·exact hf k hk
   ·have:=h.len 0 s hs.1 hs';exact⟨h.gd 0 s hs.1 hs',show(sp 0 s).1.length=n by omega⟩
  ·have:=h.len 1 s hs.1 hs';exact⟨h.gd 1 s hs.1 hs',show(sp 1 s).1.length=n by omega⟩
noncomputable def spls(sp:Int->Sx->Sx):Nat->List (Sk×Int)->List (Sk×Int)
 |0,t=>t
 |n+1,t=>spls sp n (spl sp t)
theorem mZ(h:Splits sp T gd)(i:Int):∀(n:Nat)(t:List (Sk×Int)),allG gd n t->wgt (wT T i) (spls sp n t)=wgt (wT T i) t/\allG gd 0 (spls sp n t)
 |0,t,ht=>⟨rfl,ht⟩
 |n+1,t,ht=>by
  have h1:=k8 h t [] ht λk hk=>by simp at hk
  have h2:=wF h i t [] λk hk=>⟨(ht k hk).1,λe=>by have:=(ht k hk).2;rw[e] at this;cases this⟩
  obtain⟨q1,q2⟩:=mZ h i n (spl sp t) h1;exact⟨by rw[spls,q1];exact h2.trans (by simp[bP]),q2⟩
end
theorem hU:∀(f:List (Int×List (Int×Int)))(g p n k:Int),atB (addB f g p n) k=if g=k then addA (atB f k) p n else atB f k
 |[],g,p,n,k=>by
  simp only[addB,atB]
 |(a,t)::r,g,p,n,k=>by
  unfold addB;by_cases h:a=g
  ·subst h
   rw[yM rfl];simp only[atB];split<;>rfl
  ·rw[yK h]
   simp only[atB,hU r g p n k];by_cases h2:a=k
   ·subst h2
    rw[yM rfl,yM rfl,yK λe=>h e.symm]
   ·rw[yK h2,yK h2]
theorem wG(k i:Int):∀(t:List (Sk×Int))(f:List (Int×List (Int×Int))),
  val (atB (t.foldl (λf x=>addB f x.1.1.2 x.1.2 x.2) f) k) i=val (atB f k) i+wgt (λy=>if y.1.2=k/\y.2=i then 1 else 0) t
 |[],f=>by simp[bP]
 |((s,p),n)::r,f=>by
  rw[List.foldl_cons,wG k i r,hU,wgt_cons];by_cases h:s.2=k
  ·simp only[h,yT,true_and]
   rw[b7];split<;>simp<;>omega
  ·simp only[h,yX,false_and,Int.mul_zero];omega
theorem byR_val(t:List (Sk×Int))(k i:Int):val (atB (byR t) k) i=wgt (λy=>if y.1.2=k/\y.2=i then 1 else 0) t:=by
 show val (atB (t.foldl _ []) k) i=_;rw[wG];show 0+_=_;omega
theorem tL(f:List (Int×List (Int×Int)))(g p n a:Int):a∈(addB f g p n).map (·.1)↔a∈f.map (·.1)\/g=a:=by
 induction f with
 |nil=>simp[addB,eq_comm]
 |cons x f ih=>
  obtain⟨b,t⟩:=x;unfold addB;split
  ·rename_i h
   simp only[yQ,zA,h];constructor
   ·exact λh=>.inl h
   ·rintro(h|h)
    ·exact h
    ·exact .inl h.symm
  ·simp only[yQ,zA,ih,or_assoc]
theorem m6:∀(t:List (Sk×Int))(f:List (Int×List (Int×Int)))(a:Int),a∈(t.foldl (λf x=>addB f x.1.1.2 x.1.2 x.2) f).map (·.1)↔a∈f.map (·.1)\/∃k∈t.map (·.1),k.1.2=a
 |[],f,a=>by simp
 |((s,p),n)::r,f,a=>by
  rw[List.foldl_cons,m6 r,tL];simp only[yQ,zA];constructor
  ·rintro((h|h)|⟨k,h,h'⟩)
   ·exact .inl h
   ·exact .inr ⟨(s,p),.inl rfl,h⟩
   ·exact .inr ⟨k,.inr h,h'⟩
  ·rintro(h|⟨k,rfl|h,h'⟩)
   ·exact .inl (.inl h)
   ·exact .inl (.inr h')
   ·exact .inr ⟨k,h,h'⟩
theorem trs_lin(n:Nat)(c:Int)(f g:Po):trs n (λi=>c*f i+g i)=λi=>c*trs n f i+trs n g i:=by
 induction n with
 |zero=>rfl
 |succ n ih=>
  show tr (trs n _)=_;rw[ih];funext i;show-(c*trs n f (i-2)+trs n g (i-2))-(c*trs n f (i+2)+trs n g (i+2))=c*(-(trs n f (i-2))-trs n f (i+2))+(-(trs n g (i-2))-trs n g (i+2));rw[Int.mul_sub,Int.mul_neg];omega
theorem b8:∀n,trs n (λ_=>0)=λ_=>0
 |0=>rfl
 |n+1=>by show tr (trs n _)=_;rw[b8 n];rfl
theorem wH(hT:∀s,gd s->s.1=[]->T s=trs s.2.toNat (mono 0))(hg:∀s,gd s->0<=s.2)(i:Int):∀(m:Nat)(t:List (Sk×Int)),allG gd 0 t->(∀k∈t.map (·.1),k.1.2<(m:Int))->
  horn (λg j=>wgt (λy:Sk=>if y.1.2=((g:Nat):Int)/\y.2=j then 1 else 0) t) m i=wgt (wT T i) t:=by
 have lin:∀(m:Nat)(c:Int)(f g:Nat->Po)(i:Int),horn (λk j=>c*f k j+g k j) m i=c*horn f m i+horn g m i:=by
  intro m c f g i
  induction m with
  |zero=>simp[horn]
  |succ m ih=>
   show horn _ m i+trs m (λj=>c*f m j+g m j) i=c*(horn f m i+trs m (f m) i)+(horn g m i+trs m (g m) i);rw[ih,trs_lin,Int.mul_add];show c*horn f m i+horn g m i+(c*trs m (f m) i+trs m (g m) i)=_;omega
 have one:∀(m g:Nat)(p:Int)(i:Int),g<m->horn (λk j=>if(g:Int)=(k:Nat)/\p=j then 1 else 0) m i=trs g (mono p) i:=by
  intro m;have out:∀(m g:Nat)(p:Int)(i:Int),m<=g->horn (λk j=>if(g:Int)=(k:Nat)/\p=j then 1 else 0) m i=0:=by
   intro m
   induction m with
   |zero=>intro g p i _;rfl
   |succ m ih=>
    intro g p i h;show horn _ m i+trs m _ i=0;rw[ih g p i (by omega)];have:(λj:Int=>if(g:Int)=(m:Nat)/\p=j then(1:Int) else 0)=λ_=>0:=by
     funext j;rw[yK];rintro⟨h1,_⟩;omega
    show 0+trs m (λj:Int=>if(g:Int)=(m:Nat)/\p=j then(1:Int) else 0) i=0;rw[this,b8];rfl
  induction m with
  |zero=>intro g p i h;omega
  |succ m ih=>
   intro g p i h;show horn _ m i+trs m (λj:Int=>if(g:Int)=(m:Nat)/\p=j then(1:Int) else 0) i=_;by_cases hg:g=m
   ·subst hg
    rw[out g g p i (yP _)];have:(λj:Int=>if(g:Int)=(g:Nat)/\p=j then(1:Int) else 0)=mono p:=by
     funext j;simp[mono,eq_comm]
    rw[this];omega
   ·rw[ih g p i (by omega)]
    have:(λj:Int=>if(g:Int)=(m:Nat)/\p=j then(1:Int) else 0)=λ_=>0:=by
     funext j;rw[yK];rintro⟨h1,_⟩;omega
    rw[this,b8];exact Int.add_zero _
 intro m t
 induction t with
 |nil=>
  intro _ _;have:∀m,horn (λ_ _=>(0:Int)) m i=0:=by
   intro m
   induction m with
   |zero=>rfl
   |succ m ih=>show horn _ m i+trs m (λ_=>0) i=0;rw[ih,b8];rfl
  exact this m
 |cons x r ih=>
  obtain⟨⟨s,p⟩,n⟩:=x;intro h0 hm;have hs:=h0 (s,p) (by simp);have hn:0<=s.2:=hg s hs.1;have e:(λ(g:Nat)(j:Int)=>wgt (λy:Sk=>if y.1.2=((g:Nat):Int)/\y.2=j then 1 else 0) (((s,p),n)::r))=λg j=>n*(if((s.2.toNat:Nat):Int)=(g:Nat)/\p=j then 1 else 0)+wgt (λy:Sk=>if y.1.2=((g:Nat):Int)/\y.2=j then 1 else 0) r:=by
   funext g j;rw[wgt_cons,Int.toNat_of_nonneg hn]
  have hm':s.2<m:=hm (s,p) (by simp);rw[e,lin m n (λg j=>if((s.2.toNat:Nat):Int)=(g:Nat)/\p=j then 1 else 0) _ i,ih (λk hk=>h0 k (by simp only[yQ,zA];exact .inr hk)) (λk hk=>hm k (by simp only[yQ,zA];exact .inr hk)),wgt_cons,
   one m s.2.toNat p i (by omega)]
  have e2:wT T i (s,p)=trs s.2.toNat (mono p) i:=by
   show T s (i-p)=_;rw[hT s hs.1 (List.length_eq_zero_iff.mp hs.2),show mono p=shf p (mono 0) by rw[←g7];simp,gC];rfl
  rw[e2]
theorem aF[DecidableEq κ]:∀(t:List (κ×Int))(k:κ)(n:Int),(addA t k n).length<=t.length+1/\t.length<=(addA t k n).length
 |[],k,n=>by simp[addA]
 |(a,m)::r,k,n=>by
  unfold addA;split
  ·simp
  ·have:=aF r k n
   simp only[yJ];omega
noncomputable def inK(d a:Int)(n:Nat)(t:List (Int×Int)):Prop:=∀k∈t.map (·.1),∃e:Nat,e<n/\k=a-d*e
theorem eS(d a:Int)(n:Nat):inK d a n []:=λk hk=>by simp at hk
theorem dZ(h:inK d a c t)(hk:∃e:Nat,e<c/\k=a-d*e):inK d a c (addA t k n):=λj hj=>by
 rcases bZ hj with hj|rfl
 ·exact h j hj
 ·exact hk
theorem jZ:∀(n:Nat)(l:List Int)(a:Int),l.Nodup->(∀k∈l,a<=k/\k<a+n)->l.length<=n
 |0,[],_,_,_=>by simp
 |0,x::l,a,_,h=>by have:=h x (by simp);omega
 |n+1,l,a,nd,h=>by
  have h1:((l.filter λk=>decide (k≠a)).length<=n):=jZ n _ (a+1) (nd.filter _) λk hk=>by
   simp only[List.mem_filter,zQ] at hk;have:=h k hk.1;omega
  have h2:l.length<=(l.filter λk=>decide (k≠a)).length+1:=by
   clear h1 h
   induction l with
   |nil=>simp
   |cons x l ih=>
    rw[List.nodup_cons] at nd;by_cases hx:x=a
    ·subst hx
     rw[List.filter_cons_of_neg (by simp)];have:(l.filter λk=>decide (k≠x))=l:=by
      rw[List.filter_eq_self];intro k hk;simp only[zQ];rintro rfl;exact nd.1 hk
     rw[this];simp
    ·rw[List.filter_cons_of_pos (by simpa using hx)]
     simp only[yJ];have:=ih nd.2;omega
  omega
theorem eT(hd:d=2\/d=4)(nd:keysNd t)(h:inK d a n t):t.length<=n:=by
 have key:∀l:List Int,l.Nodup->(∀k∈l,∃e:Nat,e<n/\k=a-d*e)->(l.map λk=>(a-k)/d).Nodup/\∀k∈l.map λk=>(a-k)/d,(0:Int)<=k/\k<0+n:=by
  intro l nd h;rcases hd with rfl|rfl<;>(
  constructor
  ·rw[List.nodup_iff_pairwise_ne,List.pairwise_map]
   refine List.Pairwise.imp_of_mem ?_ (List.nodup_iff_pairwise_ne.mp nd);intro x y hx hy ne e;obtain⟨_,_,hx⟩:=h x hx;obtain⟨_,_,hy⟩:=h y hy;omega
  ·intro k hk
   obtain⟨x,hx,rfl⟩:=List.mem_map.mp hk;obtain⟨_,_,hx⟩:=h x hx;omega)
 obtain⟨k1,k2⟩:=key _ nd h;simpa using jZ n _ 0 k1 k2
theorem k9{α:Type}(f:List (Int×Int)->α->List (Int×Int)):∀(l:List α)(t:List (Int×Int)),(∀t x,x∈l->inK d a n t->inK d a n (f t x))->inK d a n t->inK d a n (l.foldl f t)
 |[],t,_,h=>h
 |x::l,t,hf,h=>k9 f l _ (λt y hy=>hf t y (yR _ hy)) (hf t x yZ h)
theorem in_tmR(h:inK 2 a n t):inK 2 (a+2) (n+2) (tmR t):=k9 _ t [] (λf x hx hf=>by
 obtain⟨e,h1,h2⟩:=h x.1 (List.mem_map.mpr ⟨x,hx,rfl⟩);exact dZ (dZ hf ⟨e,by omega,by omega⟩) ⟨e+2,by omega,by omega⟩) (eS _ _ _)
theorem in_putA(hf:inK 2 a n f)(h:inK 2 a n t):inK 2 a n (putA f t):=k9 _ t f (λf x hx hf=>dZ hf (h x.1 (List.mem_map.mpr ⟨x,hx,rfl⟩))) hf
theorem in_up(h:inK 2 a n t):inK 2 (a+2) (n+2) t:=λk hk=>by
 obtain⟨e,h1,h2⟩:=h k hk;exact⟨e+1,by omega,by omega⟩
theorem j0:∀(n:Nat)(f:List (Int×Int))(a:Int)(c:Nat),keysNd f->inK 2 a c f->(∀k:Nat,k<n->inK 2 a c (b k))->c+2*n<=5000->
  sumO b n f=some (sumR (λk=>b k) n f)/\inK 2 (a+2*n) (c+2*n) (sumR (λk=>b k) n f)
 |0,f,a,c,_,h,_,_=>⟨rfl,by simpa[sumR] using h⟩
 |n+1,f,a,c,nd,hf,hb,hN=>by
  have h1:=in_tmR hf;have h2:=in_putA h1 (in_up (hb n (by omega)));have l1:=eT (.inl rfl) (eQ f) h1;have l2:=eT (.inl rfl) (gD (eQ f) (b n)) h2;rw[sumO,yM ⟨by omega,by omega⟩];have:=j0 n _ (a+2) (c+2) (gD (eQ f) _) h2 (λk hk=>in_up (hb k (by omega))) (by omega);rw[show a+2*((n+1:Nat):Int)=a+2+2*n by omega,show c+2*(n+1)=c+2+2*n by omega];exact this
theorem cY:∀(t f:List (Sk×Int)),(t.foldl (spl1 sp) f).length<=f.length+2*t.length
 |[],f=>by simp
 |x::t,f=>by
  have h:=cY (sp:=sp) t (spl1 sp f x);have h1:=aF (addA f (sp 0 x.1.1,x.1.2+1) x.2) (sp 1 x.1.1,x.1.2+ -1) x.2;have h2:=aF f (sp 0 x.1.1,x.1.2+1) x.2;rw[List.foldl_cons,yJ];unfold spl1 at h⊢;omega
section
variable{sp:Int->Sx->Sx}{T:Sx->Po}{gd:Sx->Prop}{so:Sx->Int->Option Sx}
theorem m9(hs:∀s,gd s->s.1≠[]->so s 0=some (sp 0 s)/\so s 1=some (sp 1 s)):∀(t f:List (Sk×Int)),(∀k∈t.map (·.1),gd k.1/\k.1.1≠[])->spO so t f=some (t.foldl (spl1 sp) f)
 |[],f,_=>rfl
 |x::t,f,h=>by
  have hx:=h x.1 (by simp);rw[spO,(hs _ hx.1 hx.2).1,(hs _ hx.1 hx.2).2];exact m9 hs t _ λk hk=>h k (by simp only[yQ,zA];exact .inr hk)
theorem j3(h:Splits sp T gd)(hs:∀s,gd s->s.1≠[]->so s 0=some (sp 0 s)/\so s 1=some (sp 1 s)):∀(n:Nat)(t:List (Sk×Int)),allG gd n t->2^n*t.length<=5000->spsO so n t=some (spls sp n t)
 |0,t,_,_=>rfl
 |n+1,t,ht,hl=>by
  have h1:=k8 h t [] ht λk hk=>by simp at hk
  have h2:=cY (sp:=sp) t [];have h3:2^n*(spl sp t).length<=5000:=by
   have h4:(spl sp t).length<=2*t.length:=by simpa[spl] using h2
   have h5:2^n*(spl sp t).length<=2^n*(2*t.length):=Nat.mul_le_mul_left _ h4;have h6:2^n*(2*t.length)=2^(n+1)*t.length:=by rw[Nat.pow_succ,Nat.mul_assoc]
   omega
  have h7:(spl sp t).length<=5000:=by
   have:1<=2^n:=Nat.one_le_two_pow;have:=Nat.mul_le_mul_right (spl sp t).length this;omega
  rw[spsO,m9 hs t [] λk hk=>⟨(ht k hk).1,λe=>by have:=(ht k hk).2;rw[e] at this;cases this⟩];show(if(spl sp t).length<=5000 then spsO so n (spl sp t) else none)=_;rw[yM h7];exact j3 h hs n _ h1 h3
noncomputable def pwr(N:Nat)(t:List (Sk×Int)):Prop:=∀k∈t.map (·.1),∃e:Nat,e<N+1/\k.2=(N:Int)-2*e
theorem rB:∀(t f:List (Sk×Int)),pwr N t->pwr (N+1) f->pwr (N+1) (t.foldl (spl1 sp) f)
 |[],f,_,h=>h
 |x::t,f,ht,hf=>by
  obtain⟨e,h1,h2⟩:=ht x.1 (by simp);refine rB t _ (λk hk=>ht k (by simp only[yQ,zA];exact .inr hk)) λk hk=>?_;rcases bZ hk with hk|rfl
  ·rcases bZ hk with hk|rfl
   ·exact hf k hk
   ·exact⟨e,by omega,show x.1.2+1=_ by omega⟩
  ·exact⟨e+1,by omega,show x.1.2+ -1=_ by omega⟩
theorem nA:∀(n N:Nat)(t:List (Sk×Int)),pwr N t->pwr (N+n) (spls sp n t)
 |0,N,t,h=>h
 |n+1,N,t,h=>by
  have:=nA n (N+1) (spl sp t) (rB t [] h λk hk=>by simp at hk);rw[show N+(n+1)=N+1+n by omega];exact this
theorem rC:∀(n:Nat)(t:List (Sk×Int)),t≠[]->spls sp n t≠[]
 |0,t,h=>h
 |n+1,t,h=>by
  refine rC n _ ?_;have go:∀(t f:List (Sk×Int)),f≠[]->t.foldl (spl1 sp) f≠[]:=by
   intro t
   induction t with
   |nil=>intro f h;exact h
   |cons x t ih=>
    intro f h;refine ih _ λe=>?_;have h1:=aF (addA f (sp 0 x.1.1,x.1.2+1) x.2) (sp 1 x.1.1,x.1.2+ -1) x.2;have h2:=aF f (sp 0 x.1.1,x.1.2+1) x.2;have h3:f.length≠0:=λz=>h (List.length_eq_zero_iff.mp z);rw[show addA (addA f (sp 0 x.1.1,x.1.2+1) x.2) (sp 1 x.1.1,x.1.2+ -1) x.2=[] from e] at h1;simp only[y7] at h1;omega
  cases t with
  |nil=>exact absurd rfl h
  |cons x t=>
   show t.foldl (spl1 sp) (spl1 sp [] x)≠[];refine go t _ λe=>?_;have h1:=aF (addA [] (sp 0 x.1.1,x.1.2+1) x.2) (sp 1 x.1.1,x.1.2+ -1) x.2;rw[show addA (addA [] (sp 0 x.1.1,x.1.2+1) x.2) (sp 1 x.1.1,x.1.2+ -1) x.2=[] from e] at h1;simp[addA] at h1
end
theorem wI:∀(t:List (Sk×Int))(f:List (Int×List (Int×Int)))(N:Nat)(g:Int),pwr N t->(∀g,inK 2 N (N+1) (atB f g))->inK 2 N (N+1) (atB (t.foldl (λf x=>addB f x.1.1.2 x.1.2 x.2) f) g)
 |[],f,N,g,_,h=>h g
 |x::t,f,N,g,ht,h=>by
  have hx:=ht x.1 (by simp);refine wI t _ N g (λk hk=>ht k (by simp only[yQ,zA];exact .inr hk)) λg'=>?_;rw[hU];split
  ·exact dZ (h g') hx
  ·exact h g'
theorem gF:∀(r:List Int)(x y:Int),y∈x::r->y<=maxI x r
 |[],x,y,h=>by simp at h;simp[maxI,h]
 |z::r,x,y,h=>by
  show y<=maxI (if z>x then z else x) r;have hb:(if z>x then z else x)<=maxI (if z>x then z else x) r:=gF r _ _ (by simp);simp only[zA] at h;rcases h with rfl|rfl|h
  ·split at hb<;>split<;>omega
  ·split at hb<;>split<;>omega
  ·exact gF r _ y (yR _ h)
theorem hV:∀(r:List Int)(x:Int),maxI x r∈x::r
 |[],x=>by simp[maxI]
 |z::r,x=>by
  show maxI (if z>x then z else x) r∈_;have:=hV r (if z>x then z else x);rcases List.mem_cons.mp this with h|h
  ·rw[h];split<;>simp
  ·exact yR _ (yR _ h)
theorem wJ(f:List (Int×List (Int×Int)))(g p n:Int):(addB f g p n).length<=f.length+1:=by
 induction f with
 |nil=>simp[addB]
 |cons x f ih=>
  obtain⟨a,t⟩:=x;unfold addB;split<;>simp<;>omega
theorem lA:∀(t:List (Sk×Int))(f:List (Int×List (Int×Int))),(t.foldl (λf x=>addB f x.1.1.2 x.1.2 x.2) f).length<=f.length+t.length
 |[],f=>by simp
 |x::t,f=>by
  have:=lA t (addB f x.1.1.2 x.1.2 x.2);have:=wJ f x.1.1.2 x.1.2 x.2;rw[List.foldl_cons,yJ];omega
end Py
namespace L2
open PySem PySem.Spec PyProof.Rows
section
variable{prog:Program}{w:World}{A:Around}{E:Value->Shared->Prop}{s:Shared}
theorem pD(hd:(d==sysModules)=false)(ho:s.heap.get? d=some o)(hc:o.cls=.type "dict")
  (h:Q (.ref s.heap.objs.size) {s with heap:=s.heap.push {cls:=.type "dict_items",data:=.fields #[.ref d]}}):wpAny (model prog w) A (call (.builtin "dict.items") [.ref d]) Q E s:=by
 have ty:s.TypeIs (.ref d) "dict":=⟨o,ho,hc⟩
 refine zZ PySem.F.slot_dict_items ty PySem.F.entry_dict_items ?_ (PySem.F.args_dict_items_1 _);unfold Builtin.«dict.items»;refine gV ?_;unfold Builtin.Dict.noArgs;refine gV (wpAny_notOrdered_dict ty ?_);show wpAny _ _ (pure d) _ _ s;refine yN ?_;show wpAny _ _ (Builtin.Dict.showsAll d>>=_) _ _ s;unfold Builtin.Dict.showsAll;rw[yK (by rw[hd];decide)];refine gV (yN ?_);exact gV (aAB (yN ⟨_,rfl,h⟩))
theorem pE(hv:s.heap.IsItemsView v d)(ho:s.heap.get? d=some o)(hd:o.data=.dict es ep)
  (hQ:Q (.ref s.heap.objs.size) {s with heap:=s.heap.push {cls:=.type "dict_itemiterator",data:=.fields #[.none,.bool false,.ref d,.int 0 0,.int es.size 0,.int ep 0,.none,.none]}}):
  wpAny (model prog w) A (pyIter (.ref v)) Q E s:=by
 obtain⟨ov,hov,hcv,hdv⟩:=id hv;refine wpAny_pyIter_slot hv.typeIs PySem.F.slot_dict_items_iter (zZ PySem.F.slot_dict_items_iter hv.typeIs PySem.F.entry_dict_items_iter ?_ (PySem.F.args_dict_items_iter_1 _));unfold Builtin.«dict_items.__iter__»;refine gV (yN ?_);refine gV ?_;unfold Builtin.Dict_items.dictOf;refine gV (z7 hov hdv (x:=.ref d) rfl (yN ?_));refine gV ?_;unfold Builtin.Dict_items.newIterator;refine gV (wpAny_dictEntries ho hd ?_);refine gV (wpAny_dictEpoch ho hd ?_);have own:Builtin.Dict_items.ownsTuple "dict_itemiterator"=true:=by decide
 simp only[own,yT];refine aAB (yN ⟨_,rfl,"dict_itemiterator",_,⟨_,y9 _ rfl,rfl⟩,PySem.F.slot_dict_itemiterator_next.lookup,?_⟩) (by simp only[sizeOk,Builtin.Dict_items.ownedTupleFields,yW,yY,yJ,y7,sizeLine_eq];omega);simpa[rawInt,Builtin.Dict_items.ownedTupleFields] using hQ
theorem pF{it d:Addr}{i ep:Nat}{od:Obj}{es:Array DictEntry}{e:DictEntry}{ok ov:Value}{Q:Option Value->Shared->Prop}(hit:IsItemIter s.heap it d i es.size ep ok ov)
  (hod:s.heap.get? d=some od) (hdd:od.data=.dict es ep) (hx:es[i]?=some e)
  (hQ:∀h',IsItemIterOut h' it d (i+1) es.size ep e.key e.val s.heap.objs.size->h'.get? s.heap.objs.size=some {cls:=.type "tuple",data:=.seq #[e.key,e.val]}->h'.objs.size=s.heap.objs.size+1->
   (∀b o,b≠it->s.heap.get? b=some o->h'.get? b=some o)->Q (some (.ref s.heap.objs.size)) {s with heap:=h'}):wpAny (model prog w) A (pyNext (.ref it)) Q E s:=by
 obtain⟨hp,g,dr,tk,os⟩:=s;have ty:Shared.TypeIs ⟨hp,g,dr,tk,os⟩ (.ref it) "dict_itemiterator":=⟨_,hit,rfl⟩
 unfold pyNext;refine gV (wpAny_attempt (aAF (name:=Str.ofString "__next__") ty PySem.F.slot_dict_itemiterator_next (zZ PySem.F.slot_dict_itemiterator_next ty PySem.F.entry_dict_itemiterator_next ?_ (PySem.F.args_dict_itemiterator_next_1 _))));refine gV (yN ?_);refine gV ?_;refine gV ?_
 first|refine gV (wpAny_typeNameOfWhole_itemiter ty (yN ?_))|refine gV (wpAny_typeNameOf_itemiter ty (yN ?_))
 refine gV (wpAny_fieldsOf hit rfl ?_);have own:Builtin.Dict_items.ownsTuple "dict_itemiterator"=true:=by decide
 simp only[own,yT];show wpAny _ _ (if(Value.ref d==Value.none)=true then _ else _) _ _ _;rw[yK (show¬((Value.ref d==Value.none)=true) from yL)];refine gV (yN ?_);refine gV (wpAny_dictEntries hod hdd ?_);rw[yK (by simp)];refine gV (yN ?_);refine gV (wpAny_dictEpoch hod hdd ?_);rw[yK (by simp)];refine yN ?_;have lt:i<es.size:=by
  rcases Nat.lt_or_ge i es.size with h|h
  ·exact h
  ·simp[Array.getElem?_eq_none h] at hx
 have ee:es[i]=e:=by rw[Array.getElem?_eq_getElem lt] at hx;exact y8 hx
 simp only[show¬((i:Int)<0) from by omega,yX,aAH,Array.getElem?_eq_getElem lt,ee];refine gV ?_
 first|refine gV (wpAny_typeNameOfWhole_itemiter ty (yN ?_))|refine gV (wpAny_typeNameOf_itemiter ty (yN ?_))
 refine gV (wpAny_isOneOf_itemiter ty ?_);show wpAny _ _ (setField (.ref it) 3 (rawInt ((i:Int)+1))>>=_) _ _ ⟨hp,g,dr,tk,os⟩;refine gV (aAI hit (by simp) λh1 e1 s1=>?_);replace s1:Heap.SameBut it hp h1:=s1;replace e1:IsItemIter h1 it d (i+1) es.size ep ok ov:=by
  have z:((i+1:Nat):Int)=(i:Int)+1:=by omega
  unfold IsItemIter;rw[z];simpa[rawInt] using e1
 have ty1:Shared.TypeIs ⟨h1,g,dr,tk,os⟩ (.ref it) "dict_itemiterator":=⟨_,e1,rfl⟩
 refine gV (wpAny_holding ?_);refine gV (wpAny_isOneOf_itemiter ty1 ?_);refine gV (wpAny_isOneOf_itemiter ty1 ?_);show wpAny _ _ (Builtin.Dict_items.pairFromOwner (.ref it) 6 e.key e.val) _ _ ⟨h1,g,dr,tk,os⟩;unfold Builtin.Dict_items.pairFromOwner;refine gV (wpAny_newTuple ?_);have e2:IsItemIter (h1.push {cls:=.type "tuple",data:=.seq #[e.key,e.val]}) it d (i+1) es.size ep ok ov:=yO _ e1;generalize q2:h1.push {cls:=.type "tuple",data:=.seq #[e.key,e.val]}=h2 at e2;have z1:h1.objs.size=hp.objs.size:=s1.1;have il:it<hp.objs.size:=yV hit;have t2:h2.get? hp.objs.size=some {cls:=.type "tuple",data:=.seq #[e.key,e.val]}:=by rw[←q2,←z1];exact y9 _ rfl
 have z2:h2.objs.size=hp.objs.size+1:=by rw[←q2,Heap.size_push,z1]
 have k2:∀b o,b≠it->hp.get? b=some o->h2.get? b=some o:=λb o hb q=>by rw[←q2];exact yO _ (s1.extBut b o hb q)
 show wpAny _ _ (Builtin.Dict_items.ownedTupleIsFree (.ref it)>>=_) _ _ ⟨h2,g,dr,tk,os⟩;rw[z1];clear q2 e1 s1 ty1 z1 h1;refine gV ?_;unfold Builtin.Dict_items.ownedTupleIsFree;refine gV (z7 e2 rfl (x:=.none) rfl (yN ?_));simp only[yT];refine gV (z7 e2 rfl (x:=ok) rfl ?_);refine gV (z7 e2 rfl (x:=ov) rfl ?_);refine gV (aAI e2 (by simp) λh3 e3 s3=>?_);replace s3:Heap.SameBut it h2 h3:=s3;replace e3:IsItemIter h3 it d (i+1) es.size ep e.key ov:=e3;refine gV (aAI e3 (by simp) λh4 e4 s4=>?_);replace s4:Heap.SameBut it h3 h4:=s4;replace e4:IsItemIter h4 it d (i+1) es.size ep e.key e.val:=e4;refine gV (aAI e4 (by simp) λh5 e5 s5=>?_);replace s5:Heap.SameBut it h4 h5:=s5;replace e5:IsItemIterOut h5 it d (i+1) es.size ep e.key e.val hp.objs.size:=e5;refine gV (aAI e5 (by simp) λh6 e6 s6=>?_);replace s6:Heap.SameBut it h5 h6:=s6;replace e6:IsItemIterOut h6 it d (i+1) es.size ep e.key e.val hp.objs.size:=e6;have kp:∀b o,b≠it->h2.get? b=some o->h6.get? b=some o:=λb o hb q=>s6.extBut b o hb (s5.extBut b o hb (s4.extBut b o hb (s3.extBut b o hb q)));refine gV (wpAny_letGo (yN (yN ⟨_,rfl,yN (hQ h6 e6 (kp _ _ (aAR il) t2) ?_ λb o hb q=>kp b o hb (k2 b o hb q))⟩)));show h6.objs.size=hp.objs.size+1;rw[s6.1,s5.1,s4.1,s3.1,z2]
theorem tM(hh:A.handled=none)(hit:IsItemIter s.heap it d i es.size ep ok ov)
  (hod:s.heap.get? d=some od) (hdd:od.data=.dict es ep) (hx:es.size<=i) (hQ:∀h',Heap.ExtBut it s.heap h'->Q none {s with heap:=h'}):wpAny (model prog w) A (pyNext (.ref it)) Q E s:=by
 have ty:s.TypeIs (.ref it) "dict_itemiterator":=⟨_,hit,rfl⟩
 unfold pyNext;refine gV (wpAny_attempt (aAF (name:=Str.ofString "__next__") ty PySem.F.slot_dict_itemiterator_next (zZ PySem.F.slot_dict_itemiterator_next ty PySem.F.entry_dict_itemiterator_next ?_ (PySem.F.args_dict_itemiterator_next_1 _))));refine gV (yN ?_);refine gV ?_;refine gV ?_
 first|refine gV (wpAny_typeNameOfWhole_itemiter ty (yN ?_))|refine gV (wpAny_typeNameOf_itemiter ty (yN ?_))
 refine gV (wpAny_fieldsOf hit rfl ?_);have own:Builtin.Dict_items.ownsTuple "dict_itemiterator"=true:=by decide
 simp only[own,yT];show wpAny _ _ (if(Value.ref d==Value.none)=true then _ else _) _ _ s;rw[yK (show¬((Value.ref d==Value.none)=true) from yL)];refine gV (yN ?_);refine gV (wpAny_dictEntries hod hdd ?_);rw[yK (by simp)];refine gV (yN ?_);refine gV (wpAny_dictEpoch hod hdd ?_);rw[yK (by simp)];refine yN ?_;simp only[show¬((i:Int)<0) from by omega,yX,aAH,Array.getElem?_eq_none hx];refine gV ?_
 first|refine gV (wpAny_typeNameOfWhole_itemiter ty (yN ?_))|refine gV (wpAny_typeNameOf_itemiter ty (yN ?_))
 show wpAny _ _ (setField (.ref it) 2 .none>>=_) _ _ s;refine gV (wpAny_setField hit rfl (by simp) ?_);show wpAny _ _ (newExc (.type "StopIteration") []>>=_) _ _ _;refine gV ?_;simp only[newExc,newTuple];refine gV (aAB ?_ (by size_fits));refine gV (m:=firstArgMember _ _) (wpAny_of_eq (a:=Value.none) (by first|rfl|(simp only[firstArgMember];rfl)) ?_);refine aAB ?_ (by size_fits);simp only[raiseNew];refine gV (wpAny_handled ?_);rw[show A.in1.handled=none from hh];refine gV (yN (wpAny_throw ?_));refine gV (wpAny_isInstance (T:="StopIteration") (b:=true) ⟨_,y9 _ rfl,rfl⟩ isSubtype_stop ?_);exact yN (hQ _ (((Heap.SameBut.update ..).extBut.push _).push _))
theorem eU:entryFor table "dict_itemiterator.__iter__"=some Builtin.«dict_keyiterator.__iter__»:=entryFor_alias (id':="dict_keyiterator.__iter__") (by kernel_rfl) rfl (by decide+kernel) (by kernel_rfl)
theorem pG(hit:IsItemIter s.heap it d i n ep ok ov)(h:Q (.ref it) s):wpAny (model prog w) A (pyIter (.ref it)) Q E s:=by
 have ty:s.TypeIs (.ref it) "dict_itemiterator":=⟨_,hit,rfl⟩
 refine wpAny_pyIter_slot ty PySem.F.slot_dict_itemiterator_iter (zZ PySem.F.slot_dict_itemiterator_iter ty eU ?_ (PySem.F.args_dict_itemiterator_iter_1 _));show wpAny _ _ (ret (.ref it)) _ _ s;exact yN ⟨_,rfl,"dict_itemiterator",_,ty,PySem.F.slot_dict_itemiterator_next.lookup,h⟩
end
inductive Ents:HO->List (V×V)->Prop
 |k (kvs:List (Key×V)):Ents (.dK kvs) (kvs.map λx=>(kV x.1,x.2))
 |n (kvs:List (NK×Addr×V)):Ents (.dN kvs) (kvs.map λx=>(.ref x.2.1,x.2.2))
theorem j4(h:keyIs k u=true):RelV (kV k) u:=by
 rcases aJ h with⟨i,t,rfl,rfl⟩|⟨x,t,rfl,rfl⟩
 ·exact⟨t,rfl⟩
 ·exact⟨t,rfl⟩
theorem hW:∀{es:List DictEntry}{vs:List (Key×Value)}{kvs:List (Key×V)},Pairs (mixKind P w) es vs->KV kvs vs->Paired (λ(p:V×V)(e:DictEntry)=>RelV p.1 e.key/\RelV p.2 e.val) (kvs.map λx=>(kV x.1,x.2)) es
 |_,_,_,.nil,h=>by cases h;exact .nil
 |_,_,_,.cons h1 h2 t,h=>by
  cases h with
  |cons q r=>
   refine .cons ⟨?_,?_⟩ (hW t r)
   ·show RelV (kV _) _
    rw[q.1];exact j4 h1
   ·rw[h2];exact q.2
theorem nB:∀{xs:List (NK×Addr×Value)}{kvs:List (NK×Addr×V)},Paired (λ(p:NK×Addr×V)(q:NK×Addr×Value)=>p.1=q.1/\p.2.1=q.2.1/\RelV p.2.2 q.2.2) kvs xs->
  Paired (λ(p:V×V)(e:DictEntry)=>RelV p.1 e.key/\RelV p.2 e.val) (kvs.map λx=>(.ref x.2.1,x.2.2)) (xs.map (entryOfKey (nkKind P w)))
 |_,_,.nil=>.nil
 |_,_,.cons h t=>.cons ⟨show Value.ref _=Value.ref _ by rw[h.2.1],h.2.2⟩ (nB t)
theorem d4(ok:ObjOk P w H h d u)(hu:Ents u l):
  (d==sysModules)=false/\∃o es ep,h.get? d=some o/\o.ExactDict/\o.data=.dict es ep/\Paired (λ(p:V×V)(e:DictEntry)=>RelV p.1 e.key/\RelV p.2 e.val) l es.toList:=by
 cases hu with
 |k kvs=>
  obtain⟨z,y,vs,r,o,es,ep,h1,h2,h3,_,h5,_⟩:=ok;exact⟨y,o,es,ep,h1,h2,h3,hW h5 r⟩
 |n kvs=>
  obtain⟨z,y,xs,r,o,es,ep,h1,h2,h3,h4,_⟩:=ok;exact⟨y,o,es,ep,h1,h2,h3,by rw[h4];exact nB r⟩
theorem Paired.gets:∀{l:List α}{m:List β}{i:Nat}{x:α},Paired F l m->l[i]?=some x->∃y,m[i]?=some y/\F x y
 |_,_,_,_,.nil,e=>by simp at e
 |_,_,0,_,.cons r _,e=>by simp at e;subst e;exact⟨_,rfl,r⟩
 |_,_,i+1,x,.cons _ t,e=>by
  obtain⟨u,h1,h2⟩:=Paired.gets (i:=i) (x:=x) t (by simpa using e);exact⟨u,by simpa using h1,h2⟩
noncomputable def Iti(d:Addr)(o:Obj)(u:HO)(l:List (V×V)):It:=
 ⟨λi H=>H d=some (.frz o u)/\i<l.length,λi H v H'=>∃t x y,H t=none/\v=.ref t/\H'=upd H t (.tup [x,y])/\l[i]?=some (x,y),λi H=>H d=some (.frz o u)/\l.length<=i⟩
theorem pI{P:Program}{w:World}{K:PySem.W.Frag}{elts:List Expr}{k:Nat}{pos:Pos}{es:Array DictEntry}{ep:Nat}(d it:Addr)(hdi:d≠it)(o:Obj)(hod:o.data=.dict es ep)(u:HO)(l:List (V×V))(hu:Ents u l)
  :Turn P w K (.Tuple elts k pos) (Iti d o u l) [it] it (λi h=>∃ok ov,IsItemIter h it d i es.size ep ok ov) where
 mem:=by simp
 obj:=λi h st b hb=>by
  have:b=it:=by simpa using hb
  subst this;obtain⟨ok,ov,e⟩:=st;exact⟨_,e,λv z=>by cases (show Data.fields _=Data.cell v from z)⟩
 keep:=λi h h' st kp=>by
  obtain⟨ok,ov,e⟩:=st;exact⟨ok,ov,kp it (by simp) _ e⟩
 item:=by
  intro X hP hw hK hc i pins s σ H E I hf st hg;subst hP hw hK;obtain⟨f0,f1,f2,f3,f4,f5⟩:=hf it (by simp);obtain⟨hd,hlt⟩:=hg;obtain⟨ok,ov,st⟩:=st;obtain⟨ho,oku⟩:=(show ObjOk X.prog X.w H s.heap d (.frz o u) from I.hok d _ hd)
  obtain⟨_,o',es',ep',ho',ex,hdat,pr⟩:=d4 oku hu;rw[ho] at ho';cases ho';rw[hod] at hdat;cases hdat;obtain⟨x,y⟩:∃p,l[i]?=some p:=⟨l[i],yS hlt⟩
  obtain⟨kx,vx⟩:=x;obtain⟨e,he,r1,r2⟩:=Paired.gets pr y;have he':es[i]?=some e:=by rw[←aAM];exact he
  refine pF st ho hod he' λh' out tp sz kk=>?_;refine⟨_,rfl,?_⟩;refine wpAny_letOwnedTupleGo_items (s:={s with heap:=h'}) out λh2 st2 sb=>?_;have il:it<s.heap.objs.size:=yV st;have tp2:h2.get? s.heap.objs.size=some {cls:=.type "tuple",data:=.seq #[e.key,e.val]}:=sb.extBut _ _ (aAR il) tp;have hfr:H s.heap.objs.size=none:=I.hok.fresh (yP _);have nb:∀c o,c∉[it]->s.heap.get? c=some o->h2.get? c=some o:=λc o hcm q=>by
   have hci:c≠it:=by simpa using hcm
   exact sb.extBut c o hci (kk c o hci q)
  have ne_t:∀c u,H c=some u->c≠s.heap.objs.size:=λc u q z=>by rw[z,hfr] at q;cases q
  have ch:∀c∈[it],(c∈X.ex\/X.s₀.heap.objs.size<=c)/\c≠X.env.locals/\(∀x d,X.env.cells.lookup x=some d->d≠c)/\∀p∈X.pn++pins,p.1≠c:=λc hcm=>⟨(hf c hcm).2.2.2.1,(hf c hcm).2.1,(hf c hcm).2.2.2.2.1,(hf c hcm).2.2.2.2.2⟩
  have u1:Un (frs X.stack) [it] H (upd H s.heap.objs.size (.tup [kx,vx])) s.heap h2:=by
   refine⟨λc o q n _ hb=>nb c o hb q,λc o q n _ hb=>⟨o.slots,nb c o hb q⟩,λc o q n hb=>?_,λc o q hb=>⟨o,nb c o hb q⟩,λc ys q=>?_,λc o u q=>?_,λc ps q=>⟨#[],?_⟩⟩
   ·rw[aA (zP (yV q))];exact n
   ·rw[aA (ne_t c _ q)];exact q
   ·rw[aA (ne_t c _ q)];exact q
   ·rw[aA (ne_t c _ q),q];simp
  have nfp:∀c u,H c=some u->c∉[it]:=λc u q hb=>by
   have:=(hf c hb).1;rw[q] at this;cases this
  have hok:HOk X.prog X.w (upd H s.heap.objs.size (.tup [kx,vx])) h2:=by
   intro c o q;by_cases hb:c=s.heap.objs.size
   ·subst hb
    rw[upd_same] at q;cases q;exact⟨by show 2<=sizeLine;decide,[e.key,e.val],.cons r1 (.cons r2 .nil),_,tp2,rfl,_,rfl⟩
   ·rw[aA hb] at q
    refine(I.hok c o q).stay (λd w hd r=>nb d w ?_ r) (λd r=>by rw[aA (ne_t d _ r)];exact r) λd ys r=>by rw[aA (ne_t d _ r)];exact r
    rcases hd with z|z
    ·rw[z];exact nfp c o q
    ·exact nfp d _ z
  have I2:Inv X pins σ (upd H s.heap.objs.size (.tup [kx,vx])) {s with heap:=h2}:=I.call (g':=s.gens) (d':=s.drawn) (t':=s.toks) (ch:=[it]) u1 hok I.bare ch;refine⟨.ref s.heap.objs.size,_,I2,rfl,⟨_,kx,vx,hfr,rfl,rfl,y⟩,⟨_,_,st2⟩,λc hb=>?_⟩;have hc':c=it:=by simpa using hb
  rw[hc',aA (zP il)];exact f0
 done:=by
  intro X hP hw hK hc i pins s σ H E I hf st hg;subst hP hw hK;obtain⟨f0,f1,f2,f3,f4,f5⟩:=hf it (by simp);obtain⟨hd,hle⟩:=hg;obtain⟨ok,ov,st⟩:=st;obtain⟨ho,oku⟩:=(show ObjOk X.prog X.w H s.heap d (.frz o u) from I.hok d _ hd)
  obtain⟨_,o',es',ep',ho',ex,hdat,pr⟩:=d4 oku hu;rw[ho] at ho';cases ho';rw[hod] at hdat;cases hdat;have hl:=Paired.length pr;refine tM (I.ok.hd hc) st ho hod (by simp at hl;omega) λh' eb=>⟨rfl,I.turned (t':=s.toks) (λb ob hb e=>eb b ob hb e) f0 f1 f3 f4 f5⟩
 self:=λ_ _ _ _ _ ⟨_,_,st⟩ h=>pG st h
theorem Inv.freezeE(I:Inv X pins σ H s)(hu:Ents u l)(hd:H d=some u)(ho:s.heap.get? d=some o):Inv X pins σ (upd H d (.frz o u)) s:=by
 refine I.retag hd (λ_ z=>by cases hu<;>cases z) (λ_ z=>by cases hu<;>cases z) (λ_ z=>by cases hu<;>cases z) (λob v e=>?_) ⟨ho,?_⟩
 ·have:=I.base.frzs d ob v e
  rw[hd] at this;cases hu<;>cases this
 ·have q:=I.hok d _ hd
  cases hu<;>exact q
noncomputable def viewI(v d:Addr):HO:=.ext λh=>h.IsItemsView v d
noncomputable def IsDt(H:Hp)(x:V):Prop:=∃p u l,x=.ref p/\Ents u l/\Rd H p u
section
variable{X:Cx}{pins:List (Addr×Obj)}{σ:St}{H:Hp}{s:Shared}
theorem rD(I:Inv X pins σ H s)(r:RelV x v)(ty:IsDt H x):s.TypeIs v "dict"/\∀a,v=.ref a->∃ob,s.heap.get? a=some ob/\ob.dict=none:=by
 obtain⟨p,u,l,rfl,hu,e⟩:=ty;cases r;obtain⟨_,o,es,ep,ho,ex,_⟩:=d4 (e.ok I.hok) hu;refine⟨⟨o,ho,ex.1⟩,λa z=>?_⟩;cases z;exact⟨o,ho,ex.2.1⟩
variable{o e:Expr}{es:List Expr}{to:TE}{t:TA}{name:Str}{apos cpos:Pos}{id:String}{r:V->List V->Hp->VK->Prop}
noncomputable def tDM0(r:V->List V->Hp->VK->Prop)(to:TE):TE:=λσ H Q=>to σ H λx H1=>IsDt H1 x/\r x [] H1 Q
noncomputable def tDM(r:V->List V->Hp->VK->Prop)(to:TE)(t:TA):TE:=λσ H Q=>to σ H λx H1=>IsDt H1 x/\t σ H1 λxs H2=>r x xs H2 Q
theorem pe_dm0(slot:Slot "dict" name id)(hty:typeOf (.builtin id)=pure (.type "method_descriptor"))(hm:MtR X id r)(ho:PE X o to)
  (hbase:attributeBase o name X.env (eval o X.env)=eval o X.env) (hline:(apos.endLine==cpos.line)=true):PE X (.Call (.Attribute o name apos) [] [] cpos) (tDM0 r to):=by
 intro pins s σ H Q I h;refine wpAny_Call_method0_late hbase hline (thn (ho pins s σ H _ I h) λv s1 qQ=>?_);obtain⟨x,H1,I1,r1,ty,q1⟩:=qQ;obtain⟨h1,h2⟩:=rD I1 r1 ty;exact⟨"dict",id,PySem.F.plainAttrs_dict,slot,hty,h1,h2,Calls.callWith_builtin rfl (PySem.evalArgs_none (hm pins s1 σ H1 x [] v [] Q I1 r1 .nil q1))⟩
theorem pe_dm(slot:Slot "dict" name id)(hty:typeOf (.builtin id)=pure (.type "method_descriptor"))(hm:MtR X id r)(ho:PE X o to)(ha:PA X (e::es) t)
  (hbase:attributeBase o name X.env (eval o X.env)=eval o X.env)
  (hfew:((backTo cpos (starEach (e::es) X.env)).all (λx=>!x.1)&&(backToKw cpos (keywordEach [] X.env)).all (λx=>x.1.isSome)&&decide ((e::es).length+([]:List Keyword).length+(if([]:List Keyword).isEmpty then 0 else 1)<30))=true)
  (hline:(apos.endLine==cpos.line)=true) (hs:starEach (e::es) X.env=(false,eval e X.env)::starEach es X.env) (hplain:(backTo cpos (starEach es X.env)).any (·.1)=false):
  PE X (.Call (.Attribute o name apos) (e::es) [] cpos) (tDM r to t):=by
 intro pins s σ H Q I h;refine wpAny_Call_method_late hbase hfew hline rfl (thn (ho pins s σ H _ I h) λv s1 qQ=>?_);obtain⟨x,H1,I1,r1,ty,q1⟩:=qQ;obtain⟨h1,h2⟩:=rD I1 r1 ty;refine⟨"dict",id,PySem.F.plainAttrs_dict,slot,hty,h1,h2,?_⟩;have hA:=ha cpos pins s1 σ H1 _ I1 q1;rw[hs] at hA⊢;refine Calls.callWith_builtin (by show(false||(backTo cpos (starEach es X.env)).any (·.1))=false;rw[hplain]<;>rfl) (Calls.evalArgs_plain ?_);exact thn hA λus s2 ⟨vs,H2,I2,r2,q2⟩=>hm pins s2 σ H2 x vs v us Q I2 r1 r2 q2
noncomputable def rItems:V->List V->Hp->VK->Prop:=λx vs H Q=>∃d u l,x=.ref d/\vs=[]/\Ents u l/\Rd H d u/\∀v,H v=none->Q (.ref v) (upd H v (viewI v d))
theorem wK:MtR X "dict.items" rItems:=by
 intro pins s σ H x vs v us Q I rx rv h;obtain⟨d,u,l,rfl,rfl,hu,hr,q⟩:=h;cases rx;cases rv;obtain⟨y,o,es,ep,ho,ex,_⟩:=d4 (hr.ok I.hok) hu;have hn:H s.heap.objs.size=none:=I.hok.fresh (yP _);refine pD y ho ex.1 ⟨.ref s.heap.objs.size,_,?_,rfl,q _ hn⟩;refine I.laid (t':=s.toks) (λ_ _ e=>yO _ e) (yP _) ?_;have e0:=y9 s.heap (o:={cls:=.type "dict_items",data:=.fields #[.ref d]}) rfl;refine⟨⟨_,e0,rfl,rfl⟩,⟨_,e0⟩,λh1 h2 z k=>?_⟩;obtain⟨ob,e,c1,c2⟩:=z;exact⟨ob,k ob e,c1,c2⟩
noncomputable def iItems(tl:TE):TI:=λσ H R=>tl σ H λx H1=>∃v d u l,x=.ref v/\v≠d/\H1 v=some (viewI v d)/\Ents u l/\Rd H1 d u/\∀o,(∀o',H1 d=some (.frz o' u)->o'=o)->R (Iti d o u l) (upd H1 d (.frz o u))
theorem wL(hl:PE X l tl):PI X (.Tuple elts k tpos) l (iItems tl):=by
 intro pins s σ H R I h;refine thn (hl pins s σ H _ I h) λv s1 qQ=>?_;obtain⟨x,H1,I1,r1,q1⟩:=qQ;obtain⟨a,d,u,l,rfl,hne,hv,hu,hr,q⟩:=q1;cases r1;obtain⟨hview,_,_⟩:=(show ObjOk X.prog X.w H1 s1.heap a (viewI a d) from I1.hok a _ hv)
 obtain⟨_,o,es,ep,ho,ex,hdat,_⟩:=d4 (hr.ok I1.hok) hu;refine pE hview ho hdat ?_;have same:∀o',H1 d=some (.frz o' u)->o'=o:=λo' e=>by
  obtain⟨z,_⟩:=(show ObjOk X.prog X.w H1 s1.heap d (.frz o' u) from I1.hok d _ e)
  rw[z] at ho;exact y8 ho
 have I2:Inv X pins σ (upd H1 d (.frz o u)) s1:=by
  rcases hr with hr|⟨o',hr⟩
  ·exact I1.freezeE hu hr ho
  ·rw[same o' hr] at hr
   have:upd H1 d (.frz o u)=H1:=by
    funext b;by_cases hb:b=d
    ·subst hb;rw[upd_same,hr]
    ·rw[aA hb]
   rw[this];exact I1
 have dl:d<s1.heap.objs.size:=yV ho;refine⟨s1.heap.objs.size,[s1.heap.objs.size],_,_,_,rfl,I2.kept (t':=s1.toks) λb ob e=>yO _ e,pI d _ (zP dl) o hdat u l hu,⟨_,_,y9 _ rfl⟩,λb hb=>?_,q o same⟩;have e:b=s1.heap.objs.size:=by simpa using hb
 subst e;exact I2.fpOk (yP _) (I2.hok.fresh (yP _))
end
mutual
noncomputable def NkV(K:PySem.W.Frag)(H:Hp):NK->V->Prop
 |.int i,v=>v=.int i
 |.tup l,v=>∃a vs,v=.ref a/\SqT K H a vs/\NkVs K H l vs
noncomputable def NkVs(K:PySem.W.Frag)(H:Hp):List NK->List V->Prop
 |[],vs=>vs=[]
 |k::ks,vs=>∃v r,vs=v::r/\NkV K H k v/\NkVs K H ks r
end
section
variable{X:Cx}{pins:List (Addr×Obj)}{σ:St}{H:Hp}{s:Shared}
theorem nkV_is(I:Inv X pins σ H s)(k:NK):∀{v:V}{u:Value},NkV X.K H k v->RelV v u->IsNK s.heap k u:=by
 induction k using eF with
 |h1 i=>
  intro v u h r;rw[NkV] at h;subst h;obtain⟨t,rfl⟩:=r;exact .int i t
 |h2 l ih=>
  intro v u h r;rw[NkV] at h;obtain⟨a,vs,rfl,hq,hl⟩:=h;cases r;obtain⟨its,rv,⟨o,ho,hc,n,hd⟩,_⟩:=I.tuple hq;refine .tup ho hc hd ?_;have go:∀(ks:List NK)(vs:List V)(us:List Value),(∀k∈ks,k∈l)->NkVs X.K H ks vs->Vals vs us->IsNKs s.heap ks us:=by
   intro ks
   induction ks with
   |nil=>
    intro vs us _ h r;rw[NkVs] at h;subst h;cases r;exact .nil
   |cons k ks ih2=>
    intro vs us hm h r;rw[NkVs] at h;obtain⟨v,r',rfl,h1,h2⟩:=h
    cases r with
    |cons r1 r2=>exact .cons (ih k (hm k yZ) h1 r1) (ih2 _ _ (λz hz=>hm z (yR _ hz)) h2 r2)
  simpa using go l vs its (λ_ z=>z) hl rv
noncomputable def KeyN(K:PySem.W.Frag)(H:Hp)(k:NK)(b:Addr):Prop:=NkV K H k (.ref b)/\kShp.ok k/\nkDeep k<=8
noncomputable def KeysN(K:PySem.W.Frag)(H:Hp)(kvs:List (NK×Addr×V)):Prop:=∀x∈kvs,KeyN K H x.1 x.2.1
noncomputable def lookN(kvs:List (NK×Addr×V))(k:NK):Option V:=(kvs.find? λx=>decide (x.1=k)).map (·.2.2)
noncomputable def putN(kvs:List (NK×Addr×V))(k:NK)(b:Addr)(v:V):List (NK×Addr×V):=
 if(kvs.any λx=>decide (x.1=k))=true then kvs.map (λx=>if x.1=k then(x.1,x.2.1,v) else x) else kvs++[(k,b,v)]
noncomputable abbrev RN:List (NK×Addr×V)->List (NK×Addr×Value)->Prop:=Paired λ(p:NK×Addr×V)(q:NK×Addr×Value)=>p.1=q.1/\p.2.1=q.2.1/\RelV p.2.2 q.2.2
theorem RN.val(r:RN kvs xs)(k:NK):RelO (lookN kvs k) ((atKey xs k).map (·.2)):=by
 induction r with
 |nil=>exact True.intro
 | @cons p q ps qs h t ih=>
  obtain⟨h1,_,h2⟩:=h;by_cases e:p.1=k
  ·have e':q.1=k:=h1.symm.trans e
   simp only[lookN,atKey,zU,e,e',decide_true,Option.map_some];exact h2
  ·have e':¬q.1=k:=λz=>e (h1.trans z)
   simp only[lookN,atKey,zU,e,e',aAT] at ih⊢;exact ih
theorem RN.put(r:RN kvs xs)(k:NK)(b:Addr)(ry:RelV y u):RN (putN kvs k b y) (storedH xs k b u):=by
 have e:(kvs.any λx=>decide (x.1=k))=(atKey xs k).isSome:=by
  clear ry
  induction r with
  |nil=>rfl
  | @cons p q ps qs h t ih=>
   by_cases e:p.1=k
   ·have e':q.1=k:=h.1.symm.trans e
    simp[atKey,zU,e,e']
   ·have e':¬q.1=k:=λz=>e (h.1.trans z)
    simp only[List.any_cons,e,aAT,Bool.false_or,atKey,zU,e'] at ih⊢;exact ih
 unfold putN storedH;rw[e];by_cases q:(atKey xs k).isSome=true
 ·rw[yM q,yM q]
  clear e q
  induction r with
  |nil=>exact .nil
  | @cons p q ps qs h t ih=>
   rw[yQ,yQ];refine .cons ?_ ih;obtain⟨h1,h2,h3⟩:=h;unfold putAt;by_cases e:p.1=k
   ·rw[yM e,yM (h1.symm.trans e)];exact⟨h1,h2,ry⟩
   ·rw[yK e,yK (λz=>e (h1.trans z))];exact⟨h1,h2,h3⟩
 ·rw[yK q,yK q];exact Paired.snoc r ⟨rfl,rfl,ry⟩
theorem lB(I:Inv X pins σ H s)(h:KeyN X.K H k b):(nkKind X.prog X.w).is s.heap k b:=⟨nkV_is I k h.1 rfl,h.2⟩
theorem wM(I:Inv X pins σ H s)(e:Rd H d (.dN kvs))(hk:KeysN X.K H kvs):kvs.length<=sizeLine/\(d==sysModules)=false/\∃xs,RN kvs xs/\s.heap.DictOfH (nkKind X.prog X.w) d xs:=by
 obtain⟨z,y,xs,r,o,es,ep,h1,h2,h3,h4,h5⟩:=(show ObjOk X.prog X.w H s.heap d (.dN kvs) from uX I.hok e)
 refine⟨z,y,xs,r,o,es,ep,h1,h2,h3,h4,?_,h5⟩;have go:∀{l:List (NK×Addr×V)}{m:List (NK×Addr×Value)},RN l m->KeysN X.K H l->∀x∈m,(nkKind X.prog X.w).is s.heap x.1 x.2.1:=by
  intro l m q
  induction q with
  |nil=>intro _ x hx;exact nomatch hx
  | @cons p q ps qs hq t ih=>
   intro hl x hx;rcases List.mem_cons.mp hx with e|hx
   ·subst e
    rw[←hq.1,←hq.2.1];exact lB I (hl p yZ)
   ·exact ih (λy hy=>hl y (yR _ hy)) x hx
 exact go r hk
noncomputable def DGx(K:PySem.W.Frag)(H:Hp)(d:Addr)(y:V)(o:Option V):Prop:=
 DGet H d y o\/∃kvs k b,Rd H d (.dN kvs)/\KeysN K H kvs/\y=.ref b/\KeyN K H k b/\o=lookN kvs k
noncomputable def DPx(K:PySem.W.Frag)(H:Hp)(d:Addr)(y v:V)(H':Hp):Prop:=
 DPut H d y v H'\/∃kvs k b,H d=some (.dN kvs)/\KeysN K H kvs/\y=.ref b/\KeyN K H k b/\kvs.length<sizeLine/\H'=upd H d (.dN (putN kvs k b v))
noncomputable def rGet2(K:PySem.W.Frag):V->List V->Hp->VK->Prop:=λx vs H Q=>∃d y z o,x=.ref d/\vs=[y,z]/\DGx K H d y o/\Q (o.getD z) H
theorem mt_get2(hu:X.A.units+20<cLine):MtR X "dict.get" (rGet2 X.K):=by
 intro pins s σ H x vs v us Q I rx rv h;obtain⟨d,y,z,o,rfl,rfl,g,q⟩:=h;cases rx;obtain⟨u1,u2,rfl,r1,r2⟩:=vals2 rv;rcases g with g|⟨kvs,k,b,e,hk,rfl,kb,rfl⟩
 ·exact d_get2 (by omega) I g r1 r2 λw' s' I' r'=>⟨_,_,I',r',q⟩
 ·cases r1
  obtain⟨zz,hd,xs,rel,dd⟩:=wM I e hk;refine call_meetsIn PySem.F.slot_dict_get dd.typeIs PySem.F.entry_dict_get (PySem.F.args_dict_get_3 _ _ _) (meetsH_dict_get_default (nkKind X.prog X.w) d b hd u2) ⟨(by show X.A.in1.units+8<cLine;show X.A.units+1+8<cLine;omega),k,xs,lB I kb,dd,⟨_,_,I.tok _,?_,q⟩⟩;exact(rel.val k).getD r2
theorem wN(kvs:List (NK×Addr×V))(k:NK)(b:Addr)(v:V):(putN kvs k b v).length<=kvs.length+1:=by
 unfold putN;split<;>simp
noncomputable def rSetX(K:PySem.W.Frag):TSet:=λo i v H Q=>∃d H',o=.ref d/\DPx K H d i v H'/\Q H'
theorem set_X(hu:X.A.units+20<cLine):PSet X (rSetX X.K):=by
 intro pins s σ H o i v ov iv u Q I ro ri rv h;obtain⟨d,H',rfl,g,q⟩:=h;cases ro;rcases g with g|⟨kvs,k,b,e,hk,rfl,kb,hl,rfl⟩
 ·exact jM (by omega) I g ri rv λs' I'=>⟨_,I',q⟩
 ·cases ri
  obtain⟨z,hd,xs,rel,dd⟩:=wM I (.inl e) hk;have hz:xs.length<=sizeLine:=by rw[←Paired.length rel];exact z
  have hl':(putN kvs k b v).length<=sizeLine:=by have:=wN kvs k b v;omega
  refine wpAny_setItem_heap (hsz:=hz) (by show X.A.units+1+8<cLine;omega) (lB I kb) dd λh' dd' hs=>⟨_,?_,q⟩
  obtain⟨w,es,ep,hq,h2,h3,h4,_,h5⟩:=dd';exact dJ I (by rw[e];exact True.intro) hs ⟨w,hq⟩ ⟨hl',hd,_,rel.put k b rv,w,es,ep,hq,h2,h3,h4,h5⟩
noncomputable def rSetD:V->List V->Hp->VK->Prop:=λx vs H Q=>∃d kvs k z,x=.ref d/\vs=[kV k,z]/\H d=some (.dK kvs)/\kvs.length<sizeLine/\(∀v,valV kvs k=some v->Q v H)/\(valV kvs k=none->Q z (upd H d (.dK (putK kvs k z))))
theorem mt_setd:MtR X "dict.setdefault" rSetD:=by
 intro pins s σ H x vs v us Q I rx rv h;obtain⟨d,kvs,k,z,rfl,rfl,e,hlt,q1,q2⟩:=h;cases rx;obtain⟨u1,u2,rfl,r1,r2⟩:=vals2 rv;obtain⟨hz,hd,ws,rel,dd⟩:=dk_of I.hok e;have hl:(putK kvs k z).length<=sizeLine:=by have:=bW kvs k z;omega
 refine call_meetsIn PySem.F.slot_dict_setdefault dd.typeIs PySem.F.entry_dict_setdefault (PySem.F.args_dict_setdefault_3 _ _ _) (kt_meets_setdefault (mixKind X.prog X.w) d (gP r1) hd u2) ⟨ws,dd,by rw[←rel.length];exact hz,λw' hw=>?_,λhw h' dd' hs=>?_⟩
 ·have rw':=rel.val k
  rw[hw] at rw'
  cases hv:valV kvs k with
  |none=>rw[hv] at rw';exact False.elim rw'
  |some y=>
   rw[hv] at rw';exact⟨y,H,I.tok _,rw',q1 y hv⟩
 ·have hn:valV kvs k=none:=by
   have rw':=rel.val k;rw[hw] at rw'
   cases hv:valV kvs k with
   |none=>rfl
   |some y=>rw[hv] at rw';exact False.elim rw'
  have he:∃q,h'.get? d=some q:=let⟨q,_,_,hq,_⟩:=dd';⟨q,hq⟩;exact⟨z,_,dJ I (by rw[e];exact True.intro) hs he (dk_new hl hd (rel.put k r2) dd'),r2,q2 hn⟩
theorem wO:PE X (.Dict [] [] pos) (λ_ H Q=>∀p,H p=none->Q (.ref p) (upd H p (.dN []))):=λpins s σ H Q I h=>
 wpAny_Dict_empty ⟨.ref s.heap.objs.size,_,I.laid (a:=s.heap.objs.size) (o:=.dN []) (t':=s.toks) (λ_ _ q=>yO _ q) (yP _)
  ⟨Nat.zero_le _,beq_eq_false_iff_ne.mpr (zL (zP I.big)),[],.nil,_,#[],0,y9 _ rfl,⟨rfl,rfl,rfl⟩,rfl,rfl,z0⟩,rfl,h _ (I.hok.fresh (yP _))⟩
end
end L2
namespace L2.Snd
open PySem PySem.Spec PyProof.Rows L2 Py
section
variable{K:PySem.W.Frag}
noncomputable def tCall(sp:Sp)(E:St->XK)(t:TA):TE:=λσ H Q=>t σ H λvs H1=>sp vs H1 Q (E σ)
noncomputable def gTwo(K:PySem.W.Frag)(a b:Nat):TG:=gTup K 2 (gCons (gName a) (gCons (gName b) gNil))
theorem cG{j a b:Nat}{tb:TS}{D:Ends}{σ:St}{H:Hp}{d:Addr}{u:HO}{l:List (V×V)}(P:Obj->Nat->St->Hp->Prop)(hj:σ[j]?=some (some (.ref d)))(hu:Ents u l)(hr:Rd H d u)
  (init:∀o v,H v=none->v≠d->(∀o',H d=some (.frz o' u)->o'=o)->P o 0 σ (upd (upd H v (viewI v d)) d (.frz o u))) (keep:∀o i σ H,P o i σ H->H d=some (.frz o u)) (fin:∀o σ H,P o l.length σ H->D.nx σ H)
  (step:∀o i σ H t x y,P o i σ H->l[i]?=some (x,y)->H t=none->tb {D with nx:=P o (i+1),ct:=P o (i+1),bk:=D.nx} ((σ.set a (some x)).set b (some y)) (upd H t (.tup [x,y]))):
  tFor (iItems (tDM0 rItems (tVar j))) (gTwo K a b) tb D σ H:=by
 refine⟨.ref d,hj,⟨d,u,l,rfl,hu,hr⟩,d,u,l,rfl,rfl,hu,hr,λv hv=>?_⟩;have hvd:v≠d:=by
  rintro rfl;rcases hr with hr|⟨_,hr⟩<;>(rw[hv] at hr;cases hr)
 have hr':Rd (upd H v (viewI v d)) d u:=by
  rcases hr with hr|⟨o,hr⟩
  ·exact .inl (by rw[aA (zL hvd)];exact hr)
  ·exact .inr ⟨o,by rw[aA (zL hvd)];exact hr⟩
 refine⟨v,d,u,l,rfl,hvd,upd_same,hu,hr',λo hs=>?_⟩;refine⟨λi m σ H=>P o i σ H/\m+i=l.length,⟨l.length,init o v hv hvd (λo' e=>hs o' (by rw[aA (zL hvd)];exact e)),by omega⟩,λi m σ H qQ=>?_⟩;obtain⟨h,hm⟩:=qQ;by_cases hi:i<l.length
 ·refine .inr ⟨⟨keep o i σ H h,hi⟩,P o (i+1),λσ' H' q=>⟨m-1,by omega,q,by omega⟩,λz H' qQ=>?_⟩
  obtain⟨t,x,y,ht,ez,eH,el⟩:=qQ;subst ez eH;exact⟨t,[x,y],rfl,.inl (.inl upd_same),rfl,x,[y],rfl,y,[],rfl,rfl,step o i σ H t x y h el ht⟩
 ·have e:i=l.length:=by omega
  exact .inl ⟨⟨keep o i σ H h,by show l.length<=i;omega⟩,fin o σ H (e▸h)⟩
theorem lC{a:Nat}{tl:TE}{tb:TS}{D:Ends}{σ:St}{H:Hp}(h:tl σ H λx H1=>∃p xs,x=.ref p/\SqT K H1 p xs/\∃P:Nat->St->Hp->Prop,P 0 σ H1/\(∀i σ H,P i σ H->SqT K H p xs)/\(∀σ H,P xs.length σ H->D.nx σ H)/\
   ∀i σ H x,P i σ H->xs[i]?=some x->tb {D with nx:=P (i+1),ct:=P (i+1),bk:=D.nx} (σ.set a (some x)) H)
  (mono:∀{σ H}{Q Q':VK},tl σ H Q->(∀v H',Q v H'->Q' v H')->tl σ H Q'):tFor (iTup K tl) (gName a) tb D σ H:=by
 refine mono h λv H1 ⟨p,xs,ev,hq,P,p0,keep,fin,step⟩=>⟨p,ev,⟨xs,hq⟩,?_⟩
 refine⟨λi m σ H=>P i σ H/\m+i=xs.length,⟨xs.length,p0,by omega⟩,λi m σ H qQ=>?_⟩;obtain⟨h,hm⟩:=qQ;by_cases hi:i<xs.length
 ·refine .inr ⟨⟨xs,xs[i],keep i σ H h,yS hi⟩,P (i+1),λσ' H' q=>⟨m-1,by omega,q,by omega⟩,λz H' ⟨eH,el⟩=>?_⟩
  subst eH;exact step i σ H' z h (el xs (keep i σ H' h))
 ·have e:i=xs.length:=by omega
  exact .inl ⟨⟨xs,keep i σ H h,by omega⟩,fin σ H (e▸h)⟩
noncomputable def Itd(hi:Int)(n:Nat):It:=⟨λi _=>i<n,λi H x H'=>H'=H/\x=.int (hi-i),λi _=>n<=i⟩
theorem wP{a:Nat}{ta:TA}{tb:TS}{D:Ends}{σ:St}{H:Hp}(h:ta σ H λvs H1=>∃i:Int,vs=[.int i,.int (-1),.int (-1)]/\(-(2^62)<=i/\i<2^62)/\∃P:Nat->St->Hp->Prop,P 0 σ H1/\(∀σ H,P (i+1).toNat σ H->D.nx σ H)/\
   ∀k σ H,P k σ H->k<(i+1).toNat->tb {D with nx:=P (k+1),ct:=P (k+1),bk:=D.nx} (σ.set a (some (.int (i-k)))) H)
  (mono:∀{σ H}{Q Q':List V->Hp->Prop},ta σ H Q->(∀v H',Q v H'->Q' v H')->ta σ H Q'):
  tFor (λσ H R=>ta σ H λvs H1=>∃i:Int,vs=[.int i,.int (-1),.int (-1)]/\(-(2^62)<=i/\i<2^62)/\R (Itd i (i+1).toNat) H1) (gName a) tb D σ H:=by
 refine mono h λvs H1 ⟨i,ev,hb,P,p0,fin,step⟩=>⟨i,ev,hb,?_⟩
 refine⟨λk m σ H=>P k σ H/\m+k=(i+1).toNat,⟨(i+1).toNat,p0,by omega⟩,λk m σ H qQ=>?_⟩;obtain⟨h,hm⟩:=qQ;by_cases hi:k<(i+1).toNat
 ·refine .inr ⟨hi,P (k+1),λσ' H' q=>⟨m-1,by omega,q,by omega⟩,λz H' qQ=>?_⟩
  obtain⟨eH,ez⟩:=qQ;subst eH ez;exact step k σ H' h hi
 ·have e:k=(i+1).toNat:=by omega
  exact .inl ⟨by show(i+1).toNat<=k;omega,fin σ H (e▸h)⟩
theorem tN{P:Program}{w:World}{tg:Expr}(it:Addr)(hi:Int)(n:Nat):Turn P w K tg (Itd hi n) [it] it (λi h=>IsRangeIter h it (hi+(i:Nat)* -1) ((n:Int)-(i:Nat)) (-1)) where
 mem:=by simp
 obj:=λi h st b hb=>by
  have e:b=it:=by simpa using hb
  subst e;exact⟨_,st,λv z=>by cases (show Data.fields _=Data.cell v from z)⟩
 keep:=λi h h' st k=>k it (by simp) _ st
 item:=by
  intro X hP hw hK hc i pins s σ H E I hf st hg;subst hP hw hK;obtain⟨f0,f1,f2,f3,f4,f5⟩:=hf it (by simp);have W:=Walks.range (prog:=X.prog) (w:=X.w) (I.ok.hd hc) it hi (-1) n;refine W.item i s _ _ hg st λv h' tk hv st' kk=>?_;obtain⟨t,rfl⟩:=hv;have I1:Inv X pins σ H {s with heap:=h',toks:=tk}:=I.turned (λb o hb e=>kk b o (by simpa using hb) e) f0 f1 f3 f4 f5;refine⟨_,rfl,qI (s:={s with heap:=h',toks:=tk}) (n:="range_iterator") st' rfl rfl (by decide) ⟨.int (hi-i),H,I1,⟨t,?_⟩,⟨rfl,rfl⟩,st',λb hb=>(hf b hb).1⟩⟩;rw[show hi+((i:Nat):Int)* -1=hi-i by omega]
 done:=by
  intro X hP hw hK hc i pins s σ H E I hf st hg;subst hP hw hK;obtain⟨f0,f1,f2,f3,f4,f5⟩:=hf it (by simp);exact wpAny_pyNext_range_end (I.ok.hd hc) st (by have:n<=i:=hg;omega) λh' eb=>⟨rfl,I.turned (t':=s.toks) (λb o hb e=>eb b o hb e) f0 f1 f3 f4 f5⟩
 self:=λ_ _ _ _ _ st h=>wpAny_pyIter_rangeiter st h
theorem pi_down(hg:Gl X "range")(hm:X.mg "range"=none)(ha:PA X [a,b,c] ta)(hs:starEach [a,b,c] X.env=[(false,eval a X.env),(false,eval b X.env),(false,eval c X.env)])(hs2:starEach [b,c] X.env=[(false,eval b X.env),(false,eval c X.env)]):
  PI X tg (.Call (.Name "range" p) [a,b,c] [] pos) (λσ H R=>ta σ H λvs H1=>∃i:Int,vs=[.int i,.int (-1),.int (-1)]/\(-(2^62)<=i/\i<2^62)/\R (Itd i (i+1).toNat) H1):=by
 intro pins s σ H R I h;refine Call_ (eG I hg hm boot_range (PyProof.Rows.callWith_type1 (thn (ha pos pins s σ H _ I h) λus s1 qQ=>?_) (by rw[hs,hs2]) (by rw[hs2];rfl)));obtain⟨vs,H1,I1,r1,q1⟩:=qQ;obtain⟨i,e,⟨b1,b2⟩,q⟩:=q1;subst e
 cases r1 with
 |cons r rr=>
  cases rr with
  |cons r' rr=>
   cases rr with
   |cons r2 rr=>
    cases rr;obtain⟨t,rfl⟩:=r;obtain⟨t',rfl⟩:=r';obtain⟨t2,rfl⟩:=r2;refine call_range_3 (by decide) ?_;have rs:Builtin.Range.rangeSize i (-1) (-1)=((i+1).toNat:Nat):=by
     unfold Builtin.Range.rangeSize;simp only[show¬((-1:Int)>0) by decide,yX,Int.neg_neg,Int.ediv_one];split<;>omega
    have sm:Builtin.Range.small i (-1) (-1)=true:=by
     unfold Builtin.Range.small;rw[rs];simp only[Builtin.Range.rangeFitsLong,yU,Bool.or_eq_true,zQ,beq_iff_eq,show¬((-1:Int)>0) by decide,yX];omega
    refine wpAny_pyIter_range (IsRange.new ..) sm ?_;have I2:Inv X pins σ H1 {s1 with heap:=s1.heap.push {cls:=.type "range",data:=.fields #[.int i t,.int (-1) t',.int (-1) t2]}}:=I1.kept (t':=s1.toks) λb o e=>yO _ e;refine⟨_,[_],_,_,H1,rfl,I2.kept (t':=s1.toks) λb o e=>yO _ e,tN _ i (i+1).toNat,?_,λb hb=>?_,q⟩
    ·show IsRangeIter _ _ (i+((0:Nat):Int)* -1) ((((i+1).toNat:Nat):Int)-((0:Nat):Int)) (-1)
     rw[show i+((0:Nat):Int)* -1=i by omega,show(((i+1).toNat:Nat):Int)-((0:Nat):Int)=Builtin.Range.rangeSize i (-1) (-1) by rw[rs];omega];exact y9 _ rfl
    ·have e:=List.mem_singleton.mp hb
     subst e;exact I2.fpOk (yP _) (I2.hok.fresh (yP _))
end
end L2.Snd
namespace Py
section
variable{κ:Type}[DecidableEq κ]
theorem eV:∀{t:List (κ×Int)}{p:κ},p∉t.map (·.1)->look t p=none
 |[],p,_=>rfl
 |(a,m)::r,p,h=>by
  simp only[yQ,zA,not_or] at h;have:=eV (t:=r) h.2;simp only[look,zU,show¬a=p from λe=>h.1 e.symm,aAT] at this⊢;exact this
theorem hX:∀{t:List (κ×Int)}{p:κ}{n:Int},p∉t.map (·.1)->addA t p n=t++[(p,n)]
 |[],p,n,_=>rfl
 |(a,m)::r,p,n,h=>by
  simp only[yQ,zA,not_or] at h;rw[addA,yK λe=>h.1 e.symm,hX h.2];rfl
theorem lD:∀{t:List (κ×Int)}{p:κ}{n:Int},keysNd t->p∈t.map (·.1)->addA t p n=t.map λx=>if x.1=p then(x.1,(look t p).getD 0+n) else x
 |(a,m)::r,p,n,nd,h=>by
  simp only[keysNd,yQ,List.nodup_cons] at nd;by_cases e:a=p
  ·subst e
   rw[addA,yM rfl,yQ,yM rfl];have h1:(look ((a,m)::r) a).getD 0=m:=by simp[look]
   rw[h1]
   congr 1
   symm
   refine(aAE λx hx=>?_).trans (List.map_id r);rw[yK λe=>nd.1 (List.mem_map.mpr ⟨x,hx,e⟩)];rfl
  ·have hp:p∈r.map (·.1):=by
    rcases List.mem_cons.mp h with q|q
    ·exact absurd q.symm e
    ·exact q
   have h1:look ((a,m)::r) p=look r p:=by simp[look,e]
   rw[addA,yK e,lD nd.2 hp,yQ,yK e,h1]
end
end Py
namespace L2.Snd
open PySem PySem.Spec PyProof.Rows L2 Py
noncomputable def kvI(t:List (Int×Int)):List (Key×V):=t.map λx=>(Sum.inl x.1,V.int x.2)
theorem rE(t:List (Int×Int))(p:Int):valV (kvI t) (Sum.inl p)=(look t p).map V.int:=by
 induction t with
 |nil=>rfl
 |cons x r ih=>
  by_cases e:x.1=p
  ·simp[kvI,valV,look,e]
  ·have e':¬(Sum.inl x.1:Key)=Sum.inl p:=λz=>e (Sum.inl.inj z)
   simp only[kvI,valV,look,yQ,zU,e,e',aAT] at ih⊢;exact ih
theorem rF(nd:keysNd t)(p n:Int):putK (kvI t) (Sum.inl p) (.int ((look t p).getD 0+n))=kvI (addA t p n):=by
 have ha:((kvI t).any λkv=>decide (kv.1=(Sum.inl p:Key)))=decide (p∈t.map (·.1)):=by
  clear nd
  induction t with
  |nil=>rfl
  |cons x r ih=>
   have z:decide ((Sum.inl x.1:Key)=Sum.inl p)=decide (p=x.1):=by
    by_cases e:p=x.1
    ·rw[e];simp
    ·rw[zM e,zM λz=>e (Sum.inl.inj z).symm]
   show(decide ((Sum.inl x.1:Key)=Sum.inl p)||(kvI r).any _)=_;rw[ih,z];simp only[yQ,zA,Bool.decide_or]
 unfold putK;rw[ha];by_cases h:p∈t.map (·.1)
 ·rw[zT h,yM rfl,lD nd h]
  unfold kvI;rw[zY,zY];refine aAE λx _=>?_;simp only[Function.comp];by_cases e:x.1=p
  ·rw[yM (congrArg Sum.inl e),yM e]
  ·rw[yK λz=>e (Sum.inl.inj z),yK e]
 ·rw[zM h,yK yL,hX h,eV h]
  simp[kvI]
noncomputable def nkRow(r:List Int):NK:=.tup (r.map .int)
noncomputable def nkS(s:Sx):NK:=.tup [.tup (s.1.map nkRow),.int s.2]
noncomputable def nkOf(k:Sk):NK:=.tup [nkS k.1,.int k.2]
theorem hZ{α β:Type}{f:α->β}(hf:∀a b,f a=f b->a=b):∀{x y:List α},x.map f=y.map f->x=y
 |[],[],_=>rfl
 |[],_::_,h=>by simp at h
 |_::_,[],h=>by simp at h
 |a::x,b::y,h=>by
  rw[yQ,yQ,List.cons.injEq] at h;rw[hf a b h.1,hZ hf h.2]
theorem h8(h:nkOf a=nkOf b):a=b:=by
 obtain⟨⟨r,g⟩,p⟩:=a;obtain⟨⟨r',g'⟩,p'⟩:=b;simp only[nkOf,nkS,NK.tup.injEq,List.cons.injEq,NK.int.injEq,and_true] at h;obtain⟨⟨h1,h2⟩,h3⟩:=h;have:r=r':=hZ (λx y e=>by
  simp only[nkRow,NK.tup.injEq] at e;exact hZ (λi j q=>NK.int.inj q) e) h1
 rw[this,h2,h3]
theorem gG(k:Sk):kShp.ok (nkOf k)/\nkDeep (nkOf k)<=8:=by
 have d1:∀r:List Int,nkDeep (nkRow r)<=1:=by
  intro r;have:∀r:List Int,nkDeeps (r.map .int)=0:=by
   intro r
   induction r with
   |nil=>rfl
   |cons x r ih=>rw[yQ,nkDeeps,ih];rfl
  rw[nkRow,nkDeep,this];exact yP _
 have d2:∀R:List (List Int),nkDeeps (R.map nkRow)<=1:=by
  intro R
  induction R with
  |nil=>exact Nat.zero_le _
  |cons r R ih=>
   have:=d1 r;rw[yQ,nkDeeps];omega
 refine⟨⟨⟨?_,trivial⟩,trivial⟩,?_⟩
 ·intro x hx
  obtain⟨r,_,rfl⟩:=List.mem_map.mp hx;intro y hy;obtain⟨i,_,rfl⟩:=List.mem_map.mp hy;exact trivial
 ·have:=d2 k.1.1
  simp only[nkOf,nkS,nkDeep,nkDeeps];omega
structure Kp(H H':Hp):Prop where
 tp:∀a xs,H a=some (.tup xs)->H' a=some (.tup xs)
 fz:∀a o u,H a=some (.frz o u)->H' a=some (.frz o u)
theorem Kp.refl(H:Hp):Kp H H:=⟨λ_ _ e=>e,λ_ _ _ e=>e⟩
theorem Kp.trans(a:Kp H H1)(b:Kp H1 H2):Kp H H2:=⟨λx xs e=>b.tp _ _ (a.tp x xs e),λx o u e=>b.fz _ _ _ (a.fz x o u e)⟩
theorem Kp.sqT{K:PySem.W.Frag}(k:Kp H H')(h:SqT K H a xs):SqT K H' a xs:=by
 rcases h with(h|⟨o,h⟩)|h
 ·exact .inl (.inl (k.tp _ _ h))
 ·exact .inl (.inr ⟨o,k.fz _ _ _ h⟩)
 ·exact .inr h
theorem Kp.nk{K:PySem.W.Frag}(kp:Kp H H')(k:NK):∀{v:V},NkV K H k v->NkV K H' k v:=by
 induction k using eF with
 |h1 i=>intro v h;rw[NkV] at h⊢;exact h
 |h2 l ih=>
  intro v h;rw[NkV] at h⊢;obtain⟨a,vs,e,q,hl⟩:=h;refine⟨a,vs,e,kp.sqT q,?_⟩;have go:∀(ks:List NK)(vs:List V),(∀k∈ks,k∈l)->NkVs K H ks vs->NkVs K H' ks vs:=by
   intro ks
   induction ks with
   |nil=>intro vs _ h;rw[NkVs] at h⊢;exact h
   |cons k ks ih2=>
    intro vs hm h;rw[NkVs] at h⊢;obtain⟨v,r,e,h1,h2⟩:=h;exact⟨v,r,e,ih k (hm k yZ) h1,ih2 _ (λz hz=>hm z (yR _ hz)) h2⟩
  exact go l vs (λ_ z=>z) hl
structure TN(K:PySem.W.Frag)(H:Hp)(kvs:List (NK×Addr×V))(t:List (Sk×Int)):Prop where
 pr:Paired (λ(x:NK×Addr×V)(y:Sk×Int)=>x.1=nkOf y.1/\x.2.2=.int y.2) kvs t
 ks:∀x∈kvs,NkV K H x.1 (.ref x.2.1)
theorem TN.kp{K:PySem.W.Frag}(h:TN K H kvs t)(k:Kp H H'):TN K H' kvs t:=⟨h.pr,λx hx=>k.nk _ (h.ks x hx)⟩
theorem TN.keys{K:PySem.W.Frag}(h:TN K H kvs t):KeysN K H kvs:=by
 obtain⟨pr,ks⟩:=h
 induction pr with
 |nil=>intro x hx;cases hx
 | @cons p q ps qs hq r ih=>
  intro x hx;rcases List.mem_cons.mp hx with rfl|hx
  ·exact⟨ks _ yZ,by rw[hq.1];exact gG _⟩
  ·exact ih (λy hy=>ks y (yR _ hy)) x hx
theorem TN.look{K:PySem.W.Frag}(h:TN K H kvs t)(k:Sk):lookN kvs (nkOf k)=(Py.look t k).map V.int:=by
 have pr:=h.pr;clear h
 induction pr with
 |nil=>rfl
 | @cons p q ps qs hq r ih=>
  by_cases e:q.1=k
  ·have e':p.1=nkOf k:=by rw[hq.1,e]
   simp only[lookN,Py.look,zU,e,e',decide_true,Option.map_some,hq.2]
  ·have e':¬p.1=nkOf k:=λz=>e (h8 (hq.1.symm.trans z))
   simp only[lookN,Py.look,zU,e,e',aAT] at ih⊢;exact ih
theorem TN.put{K:PySem.W.Frag}(h:TN K H kvs t)(nd:keysNd t)(hb:NkV K H (nkOf k) (.ref b))(n:Int):
  TN K H (putN kvs (nkOf k) b (.int ((Py.look t k).getD 0+n))) (addA t k n):=by
 have ha:(kvs.any λx=>decide (x.1=nkOf k))=decide (k∈t.map (·.1)):=by
  have pr:=h.pr;clear nd hb h
  induction pr with
  |nil=>rfl
  | @cons p q ps qs hq r ih=>
   have z:decide (p.1=nkOf k)=decide (k=q.1):=by
    by_cases e:k=q.1
    ·rw[zT e,zT (by rw[hq.1,e])]
    ·rw[zM e,zM λz=>e (h8 (hq.1.symm.trans z)).symm]
   rw[List.any_cons,ih,z];simp only[yQ,zA,Bool.decide_or]
 unfold putN;rw[ha];by_cases hk:k∈t.map (·.1)
 ·rw[zT hk,yM rfl,lD nd hk]
  generalize (Py.look t k).getD 0+n=v;obtain⟨pr,ks⟩:=h;clear nd ha hk hb;refine⟨?_,λx hx=>?_⟩
  ·clear ks
   induction pr with
   |nil=>exact .nil
   | @cons p q ps qs hq r ih=>
    refine .cons ?_ ih;show(if p.1=nkOf k then(p.1,p.2.1,V.int v) else p).1=nkOf (if q.1=k then(q.1,v) else q).1/\(if p.1=nkOf k then(p.1,p.2.1,V.int v) else p).2.2=V.int (if q.1=k then(q.1,v) else q).2;by_cases e:q.1=k
    ·rw[yM e,yM (by rw[hq.1,e])];exact⟨hq.1,rfl⟩
    ·rw[yK e,yK λz=>e (h8 (hq.1.symm.trans z))];exact hq
  ·obtain⟨y,hy,rfl⟩:=List.mem_map.mp hx
   split
   ·exact ks y hy
   ·exact ks y hy
 ·rw[zM hk,yK yL,hX hk,eV hk]
  refine⟨Paired.snoc h.pr ⟨rfl,by simp⟩,λx hx=>?_⟩;rcases List.mem_append.mp hx with hx|hx
  ·exact h.ks x hx
  ·rw[List.mem_singleton.mp hx];exact hb
noncomputable def spAdd(K:PySem.W.Frag):Sp:=λvs H Q _=>∃d y n m o H',vs=[.ref d,y,.int n]/\IsDt H (.ref d)/\DGx K H d y o/\o.getD (.int 0)=.int m/\DPx K H d y (.int (m+n)) H'/\Q .non H'
noncomputable def tAddB(K:PySem.W.Frag):TS:=tAsg (tAdd (tDM (rGet2 K) (tVar 0) (tCons (tVar 1) (tCons (tC (.int 0)) tNil))) (tVar 2)) (gSub (tVar 0) (tVar 1) (rSetX K))
theorem wQ{K:PySem.W.Frag}(h:spAdd K vs H Q E):tAddB K {nx:=λ_ H'=>Q .non H',rt:=Q} (start ["counts","key","number"] vs) H:=by
 obtain⟨d,y,n,m,o,H',rfl,hd,hg,hm,hp,q⟩:=h;refine⟨.ref d,rfl,hd,y,rfl,d,y,.int 0,o,rfl,rfl,hg,.int n,rfl,m,n,hm,rfl,.ref d,rfl,y,rfl,d,H',rfl,hp,q⟩
theorem rG{K:PySem.W.Frag}(e:H d=some (.dK (kvI t)))(nd:keysNd t)(hl:t.length<sizeLine)(q:Q .non (upd H d (.dK (kvI (addA t p n))))):spAdd K [.ref d,.int p,.int n] H Q E:=by
 refine⟨d,.int p,n,(look t p).getD 0,(look t p).map V.int,_,rfl,⟨d,_,_,rfl,.k _,.inl e⟩,.inl (by rw[←rE];exact DGet.k (k:=Sum.inl p) e),?_,.inl (DPut.k (k:=Sum.inl p) e (by simpa[kvI] using hl)),by rw[rF nd];exact q⟩;cases look t p<;>rfl
theorem add_n{K:PySem.W.Frag}(e:H d=some (.dN kvs))(h:TN K H kvs t)(nd:keysNd t)(hb:NkV K H (nkOf k) (.ref b))(hl:t.length<sizeLine)
  (q:∀kvs',TN K H kvs' (addA t k n)->Q .non (upd H d (.dN kvs'))):spAdd K [.ref d,.ref b,.int n] H Q E:=by
 have hlen:=Paired.length h.pr;refine⟨d,.ref b,n,(look t k).getD 0,(look t k).map V.int,_,rfl,⟨d,_,_,rfl,.n _,.inl e⟩,.inr ⟨kvs,nkOf k,b,.inl e,h.keys,rfl,⟨hb,gG k⟩,(h.look k).symm⟩,?_,.inr ⟨kvs,nkOf k,b,e,h.keys,rfl,⟨hb,gG k⟩,by omega,rfl⟩,q _ (h.put nd hb n)⟩;cases look t k<;>rfl
structure Exc(ds:List Addr)(H H':Hp):Prop where
 kp:Kp H H'
 ot:∀a o,a∉ds->H a=some o->H' a=some o
theorem Exc.refl(ds:List Addr)(H:Hp):Exc ds H H:=⟨Kp.refl H,λ_ _ _ e=>e⟩
theorem Exc.trans(a:Exc ds H H1)(b:Exc ds H1 H2):Exc ds H H2:=⟨a.kp.trans b.kp,λx o n e=>b.ot x o n (a.ot x o n e)⟩
theorem Exc.mono(a:Exc ds H H1)(h:∀x∈ds,x∈es):Exc es H H1:=⟨a.kp,λx o n e=>a.ot x o (λz=>n (h x z)) e⟩
theorem Exc.free(a:Exc ds H H1)(hp:p∉ds)(h:H1 p=none):H p=none:=by
 cases e:H p with
 |none=>rfl
 |some o=>rw[a.ot p o hp e] at h;cases h
theorem Exc.new(a:Exc ds H H1)(h:H1 p=none):Exc ds H (upd H1 p o):=by
 refine a.trans ⟨⟨λx xs e=>?_,λx ob u e=>?_⟩,λx ob _ e=>?_⟩<;>(rw[aA (aB e h)];exact e)
theorem Exc.put(a:Exc ds H H1)(h:H1 p=some u)(hp:p∈ds\/H p=none)(n1:∀xs,u≠.tup xs)(n2:∀ob v,u≠.frz ob v):Exc ds H (upd H1 p o):=by
 refine⟨⟨λx xs e=>?_,λx ob v e=>?_⟩,λx ob hx e=>?_⟩
 ·have:=a.kp.tp x xs e
  rw[aA (by rintro rfl;rw[h] at this;exact n1 _ (y8 this))];exact this
 ·have:=a.kp.fz x ob v e
  rw[aA (by rintro rfl;rw[h] at this;exact n2 _ _ (y8 this))];exact this
 ·rw[aA (by
   rintro rfl;rcases hp with hp|hp
   ·exact hx hp
   ·rw[hp] at e;cases e)]
  exact a.ot x ob hx e
theorem Exc.walk(a:Exc ds H H1)(hu:Ents u l)(hr:Rd H1 d u)(hd:d∈ds\/H d=none)(hv:H1 v=none)(same:∀o',H1 d=some (.frz o' u)->o'=o):Exc ds H (upd (upd H1 v w) d (.frz o u)):=by
 have b:=a.new (o:=w) hv;have hvd:d≠v:=by rintro rfl;rcases hr with hr|⟨_,hr⟩<;>(rw[hv] at hr;cases hr)
 rcases hr with hr|⟨o',hr⟩
 ·exact b.put (u:=u) (by rw[aA hvd];exact hr) hd (λxs e=>by cases hu<;>cases e) λob v e=>by cases hu<;>cases e
 ·have e:=same o' hr
  subst e;have:upd (upd H1 v w) d (.frz o' u)=upd H1 v w:=by
   funext x;by_cases hx:x=d
   ·subst hx;rw[upd_same,aA hvd,hr]
   ·rw[aA hx]
  rw[this];exact b
end L2.Snd
namespace Py
theorem nC{κ α:Type}[DecidableEq κ](f:List (κ×Int)->α->List (κ×Int))(hf:∀t x,t.length<=(f t x).length):∀(l:List α)(t:List (κ×Int)),t.length<=(l.foldl f t).length
 |[],t=>yP _
 |x::l,t=>zB (hf t x) (nC f hf l _)
theorem j5{κ α:Type}[DecidableEq κ](f:List (κ×Int)->α->List (κ×Int))(hf:∀t x,t.length<=(f t x).length)(l:List α)(t:List (κ×Int))(i:Nat):((l.take i).foldl f t).length<=(l.foldl f t).length:=by
 have:l.foldl f t=(l.drop i).foldl f ((l.take i).foldl f t):=by rw[←List.foldl_append,List.take_append_drop]
 rw[this];exact nC f hf _ _
theorem eW{β α:Type}(f:β->α->β)(l:List α)(t:β){x:α}(h:l[i]?=some x):(l.take (i+1)).foldl f t=f ((l.take i).foldl f t) x:=by
 obtain⟨hi,e⟩:=List.getElem?_eq_some_iff.mp h;rw[List.take_succ,List.foldl_append,h];rfl
end Py
namespace L2.Snd
open PySem PySem.Spec PyProof.Rows L2 Py
theorem d6(t:List (Int×Int)):Ents (.dK (kvI t)) (t.map λx=>(.int x.1,.int x.2)):=by
 have:=Ents.k (kvI t);have e:((kvI t).map λx=>(kV x.1,x.2))=t.map λx=>(V.int x.1,V.int x.2):=by simp[kvI,Function.comp_def,kV]
 rw[e] at this;exact this
theorem pJ{α β:Type}{f:α->β}{l:List α}{i:Nat}{y:β}(h:(l.map f)[i]?=some y):∃x,l[i]?=some x/\y=f x:=by
 rw[zE] at h
 cases e:l[i]? with
 |none=>rw[e] at h;cases h
 |some x=>rw[e] at h;exact⟨x,rfl,(y8 h).symm⟩
noncomputable def spTimes:Sp:=λvs H Q _=>∃d t,vs=[.ref d]/\Rd H d (.dK (kvI t))/\(tmR t).length<=5000/\∀f H',H f=none->H' f=some (.dK (kvI (tmR t)))->Exc [d] H H'->Q (.ref f) H'
noncomputable def tTimesB(K:PySem.W.Frag)(rp:V)(E:St->XK):TS:=
 tSeq (tAsg tDNewK (gName 1)) (tSeq (tFor (iItems (tDM0 rItems (tVar 0))) (gTwo K 2 3) (tFor (iTup K (tC rp)) (gName 4) (tDrop (tCall (spAdd K) E (tCons (tVar 1) (tCons (tAdd (tVar 2) (tVar 4)) (tCons (tUn (rU λi=>.int (-i)) (tVar 3)) tNil))))))) (tRet (tVar 1)))
noncomputable abbrev stT(f:List (Int×Int))(x:Int×Int):List (Int×Int):=addA (addA f (x.1+2) (-x.2)) (x.1+ -2) (-x.2)
theorem stT_len(t:List (Int×Int))(x:Int×Int):t.length<=(stT t x).length:=zB (aF t _ _).2 (aF _ _ _).2
theorem pK{K:PySem.W.Frag}(hrp:∀H,SqT K H rp [.int 2,.int (-2)])(h:spTimes vs H Q E'):
  tTimesB K (.ref rp) E {nx:=λ_ H'=>Q .non H',rt:=Q} (start ["powers","found","power","number","more"] vs) H:=by
 obtain⟨d,t,rfl,hr,hl,q⟩:=h;intro f hf;have hfd:f≠d:=by rintro rfl;rcases hr with hr|⟨_,hr⟩<;>(rw[hf] at hr;cases hr)
 have hr1:Rd (upd H f (.dK [])) d (.dK (kvI t)):=by
  rcases hr with hr|⟨o,hr⟩
  ·exact .inl (by rw[aA (zL hfd)];exact hr)
  ·exact .inr ⟨o,by rw[aA (zL hfd)];exact hr⟩
 have x1:Exc [d] H (upd H f (.dK [])):=(Exc.refl [d] H).new hf;dsimp only[gName,tSeq];show tFor _ _ _ _ ([some (.ref d),some (.ref f),none,none,none]:St) (upd H f (.dK []));have ll:(t.map λx=>(V.int x.1,V.int x.2)).length=t.length:=by simp
 refine cG (K:=K) (λo i σ H'=>∃a b c,σ=[some (.ref d),some (.ref f),a,b,c]/\H' d=some (.frz o (.dK (kvI t)))/\H' f=some (.dK (kvI ((t.take i).foldl stT [])))/\Exc [d] H H') rfl (d6 t) hr1 (λo v hv hvd hs=>?_) (λo i σ H' qQ=>by obtain⟨_,_,_,_,z,_⟩:=qQ;exact z) (λo σ H' qQ=>?_) (λo i σ H' w x y qQ hx hw=>?_)
 ·have hvf:v≠f:=by rintro rfl;rw[upd_same] at hv;cases hv
  refine⟨none,none,none,rfl,upd_same,?_,?_⟩
  ·rw[aA hfd,aA (zL hvf),upd_same];rfl
  ·exact x1.walk (d6 t) hr1 (.inl (by simp)) hv hs
 ·obtain⟨a,b,c,e1,e2,e3,e4⟩:=qQ
  rw[ll,zV] at e3;subst e1;exact⟨.ref f,rfl,q f H' hf e3 e4⟩
 ·obtain⟨a,b,c,e1,e2,e3,e4⟩:=qQ
  subst e1;obtain⟨z,hz,ez⟩:=pJ hx;cases ez;obtain⟨p,n⟩:=z;generalize hT:(t.take i).foldl stT []=T at e3;have hT':(t.take (i+1)).foldl stT []=stT T (p,n):=by rw[eW stT t [] hz,hT]
  have hle:(stT T (p,n)).length<=5000:=by rw[←hT'];exact zB (j5 stT stT_len t [] (i+1)) hl
  have ndT:keysNd T:=by rw[←hT];exact dY _ (λt x h=>aQ (aQ h _ _) _ _) _ [] z0
  have hwd:d≠w:=aB e2 hw;have hwf:f≠w:=aB e3 hw;have hs:(5000:Nat)<sizeLine:=by rw[sizeLine_eq];decide
  have l1:=aF T (p+2) (-n);have l2:=aF (addA T (p+2) (-n)) (p+ -2) (-n);have l3:(addA (addA T (p+2) (-n)) (p+ -2) (-n)).length<=5000:=hle;show tFor _ _ _ _ [some (.ref d),some (.ref f),some (.int p),some (.int n),c] _;refine lC (K:=K) (tl:=tC (.ref rp)) ⟨rp,[.int 2,.int (-2)],rfl,hrp _,λj σ H1=>∃c,σ=[some (.ref d),some (.ref f),some (.int p),some (.int n),c]/\H1 d=some (.frz o (.dK (kvI t)))/\
   H1 f=some (.dK (kvI (if j=0 then T else if j=1 then addA T (p+2) (-n) else stT T (p,n))))/\Exc [d] H H1,⟨c,rfl,by rw[aA hwd];exact e2,by rw[aA hwf];exact e3,e4.new hw⟩,λ_ _ _ _=>hrp _,λσ H1 qQ=>?_,λj σ H1 x qQ hx=>?_⟩ λh k=>k _ _ h
  ·obtain⟨c,z1,z2,z3,z4⟩:=qQ
   refine⟨_,_,_,z1,z2,?_,z4⟩;rw[hT'];exact z3
  ·obtain⟨c,z1,z2,z3,z4⟩:=qQ
   subst z1;have hj:j=0\/j=1:=by
    have:=(List.getElem?_eq_some_iff.mp hx).1;simp only[yJ,y7] at this;omega
   have n1:∀(xs:List V)(T':List (Int×Int)),HO.dK (kvI T')≠.tup xs:=λ_ _ e=>by cases e
   have n2:∀(ob:Obj)(v:HO)(T':List (Int×Int)),HO.dK (kvI T')≠.frz ob v:=λ_ _ _ e=>by cases e
   rcases hj with rfl|rfl
   ·cases hx
    simp only[yT] at z3;refine⟨.ref f,rfl,.int p,rfl,.int 2,rfl,p,2,rfl,rfl,.int n,rfl,n,rfl,?_⟩;dsimp only[tNil];show spAdd K [.ref f,.int (p+2),.int (-n)] H1 _ _;refine rG z3 ndT (by omega) ?_;exact⟨_,rfl,by rw[aA (zL hfd)];exact z2,by rw[upd_same];rfl,z4.put z3 (.inr hf) (λxs=>n1 xs _) λob v=>n2 ob v _⟩
   ·cases hx
    simp only[yT,show¬((1:Nat)=0) by decide,yX] at z3;refine⟨.ref f,rfl,.int p,rfl,.int (-2),rfl,p,-2,rfl,rfl,.int n,rfl,n,rfl,?_⟩;dsimp only[tNil];show spAdd K [.ref f,.int (p+ -2),.int (-n)] H1 _ _;refine rG z3 (aQ ndT _ _) (by omega) ?_;exact⟨_,rfl,by rw[aA (zL hfd)];exact z2,by rw[upd_same];rfl,z4.put z3 (.inr hf) (λxs=>n1 xs _) λob v=>n2 ob v _⟩
section
variable{X:Cx}
theorem eX{vs:List (Key×Value)}:∀{kvs:List (Key×V)}{us:List Value},us.length=kvs.length->(∀(j:Nat) u,us[j]?=some u->∃k x,kvs[j]?=some (k,x)/\(mixKind P w).is k u=true)->Vals (kvs.map λx=>kV x.1) us
 |[],us,hl,_=>by cases us with|nil=>exact .nil|cons _ _=>simp at hl
 |x::kvs,[],hl,_=>by simp at hl
 |x::kvs,u::us,hl,h=>by
  obtain⟨k,y,e,q⟩:=h 0 u rfl;cases e;exact .cons (j4 q) (eX (vs:=vs) (by simpa using hl) λj u' e=>h (j+1) u' e)
theorem pL(hc:X.calm=true):CallR X (.type "list") (λxs H Q=>∃d kvs,xs=[.ref d]/\Rd H d (.dK kvs)/\∀p,H p=none->Q (.ref p) (upd H p (.lst (kvs.map λx=>kV x.1)))):=by
 intro pins s σ H xs us Q I r h;obtain⟨d,kvs,rfl,hr,q⟩:=h
 cases r with
 |cons r rr=>
 cases rr;cases r;obtain⟨z,y,vs,rel,dd⟩:=dI I.hok hr;obtain⟨ep,hat⟩:=dd.dictAt;have hl:kvs.length=vs.length:=rel.length;refine PySem.W.kdl_call (PySem.W.kdl_dict (knd:=mixKind X.prog X.w) (kvs:=vs) (ep:=ep) y) (I.ok.hd hc) hat (by omega) λh' tk acc c hk hS hacc=>?_;have hv:Vals (kvs.map λx=>kV x.1) acc.toList:=by
  refine eX (P:=X.prog) (w:=X.w) (vs:=vs) (by rw[Array.length_toList,hacc.1,hl]) λj u e=>?_;obtain⟨k,x,e1,e2⟩:=hacc.2 j u (by rw[←aAM];exact e);have hj:j<kvs.length:=by have:=(List.getElem?_eq_some_iff.mp e1).1;omega
  obtain⟨w,e3,_⟩:=KV.at rel (yS hj);rw[e1] at e3;cases e3;exact⟨_,_,yS hj,e2⟩
 have hn:H s.heap.objs.size=none:=I.hok.fresh (yP _);exact⟨.ref s.heap.objs.size,_,I.laid (a:=s.heap.objs.size) (o:=.lst (kvs.map λx=>kV x.1)) (t':=tk) hk (yP _) ⟨by simp;omega,acc.toList,c,hv,by simpa using hS⟩,rfl,q _ hn⟩
end
theorem Exc.comp(a:Exc ex H H1)(b:Exc ds H1 H2)(h:∀x∈ds,x∈ex\/H x=none):Exc ex H H2:=
 ⟨a.kp.trans b.kp,λx o n e=>b.ot x o (λz=>(h x z).elim n λy=>by rw[y] at e;cases e) (a.ot x o n e)⟩
structure BR(H:Hp)(br:Addr)(b:List (Int×List (Int×Int)))(as:List Addr):Prop where
 len:as.length=b.length
 rd:Rd H br (.dK ((b.zip as).map λx=>(Sum.inl x.1.1,.ref x.2)))
 inn:∀x∈b.zip as,Rd H x.2 (.dK (kvI x.1.2))
theorem rd_ne(h:Rd H a u):H a≠none:=by rcases h with h|⟨_,h⟩<;>(rw[h];exact Option.some_ne_none _)
theorem cH(h:Rd H a u)(e:∀o,H a=some o->H' a=some o):Rd H' a u:=by
 rcases h with h|⟨o,h⟩
 ·exact .inl (e _ h)
 ·exact .inr ⟨o,e _ h⟩
theorem BR.keep(h:BR H br b as)(e:∀a o,(a=br\/a∈as)->H a=some o->H' a=some o):BR H' br b as:=
 ⟨h.len,cH h.rd λo=>e br o (.inl rfl),λx hx=>cH (h.inn x hx) λo=>e x.2 o (.inr (List.of_mem_zip hx).2)⟩
theorem BR.walk(h:BR H br b as)(hr:Rd H d (.dK (kvI t)))(hv:H v=none)(hd:d≠br):BR (upd (upd H v w) d (.frz o (.dK (kvI t)))) br b as:=by
 refine⟨h.len,cH h.rd λq e=>?_,λx hx=>?_⟩
 ·rw[aA (zL hd),aA (aB e hv)];exact e
 ·by_cases e:x.2=d
  ·have hi:=h.inn x hx
   rw[e] at hi⊢;have same:HO.dK (kvI x.1.2)=.dK (kvI t):=by
    rcases hi with hi|⟨q,hi⟩<;>rcases hr with hr|⟨q',hr⟩
    ·rw[hi] at hr;exact y8 hr
    ·rw[hi] at hr;cases hr
    ·rw[hi] at hr;cases hr
    ·rw[hi] at hr;exact(HO.frz.inj (y8 hr)).2
   rw[same];exact .inr ⟨o,upd_same⟩
  ·refine cH (h.inn x hx) λq z=>?_
   rw[aA e,aA (aB z hv)];exact z
theorem BR.get(h:BR H br b as)(r:Int):
  (∃a,a∈as/\valV ((b.zip as).map λx=>((Sum.inl x.1.1:Key),V.ref x.2)) (Sum.inl r)=some (.ref a)/\Rd H a (.dK (kvI (atB b r))))\/(valV ((b.zip as).map λx=>((Sum.inl x.1.1:Key),V.ref x.2)) (Sum.inl r)=none/\atB b r=[]):=by
 have inn:=h.inn;have len:=h.len;clear h
 induction b generalizing as with
 |nil=>exact .inr ⟨rfl,rfl⟩
 |cons x b ih=>
  obtain⟨g,t⟩:=x
  cases as with
  |nil=>simp at len
  |cons a as=>
   by_cases e:g=r
   ·subst e
    refine .inl ⟨a,yZ,by simp[valV],?_⟩;rw[atB,yM rfl];exact inn ((g,t),a) yZ
   ·have e':¬(Sum.inl g:Key)=Sum.inl r:=λz=>e (Sum.inl.inj z)
    have ev:valV ((((g,t)::b).zip (a::as)).map λx=>((Sum.inl x.1.1:Key),V.ref x.2)) (Sum.inl r)=valV ((b.zip as).map λx=>((Sum.inl x.1.1:Key),V.ref x.2)) (Sum.inl r):=by
     simp only[valV,List.zip_cons_cons,yQ,zU,e',aAT]
    rw[ev,atB,yK e];rcases ih (λx hx=>inn x (yR _ hx)) (by simpa using len) with⟨a',m,q⟩|q
    ·exact .inl ⟨a',yR _ m,q⟩
    ·exact .inr q
noncomputable def maxB(b:List (Int×List (Int×Int))):Int:=match b.map (·.1) with
 |[]=>0
 |x::r=>maxI x r
noncomputable def spSummed:Sp:=λvs H Q _=>∃br b as t,vs=[.ref br]/\BR H br b as/\br∉as/\b≠[]/\maxB b<=5000/\-1<=maxB b/\sumO (atB b) (maxB b+1).toNat []=some t/\∀p H',H p=none->H' p=some (.dK (kvI t))->Exc (br::as) H H'->Q (.ref p) H'
noncomputable def rMax(K:PySem.W.Frag):List V->Hp->VK->Prop:=λxs H Q=>∃(p:Addr)(ys:List Int),xs=[.ref p]/\SqL K H p (ys.map V.int)/\0<ys.length/\∀M,M∈ys->(∀a∈ys,a<=M)->Q (.int M) H
noncomputable def rLstD:List V->Hp->VK->Prop:=λxs H Q=>∃d kvs,xs=[.ref d]/\Rd H d (.dK kvs)/\∀p,H p=none->Q (.ref p) (upd H p (.lst (kvs.map λx=>kV x.1)))
noncomputable def tNeg1:TE:=tUn (rU λi=>.int (-i)) (tC (.int 1))
noncomputable def tRange(K:PySem.W.Frag):TA:=tCons (tCB (rMax K) (tCons (tCB rLstD (tCons (tVar 0) tNil)) tNil)) (tCons tNeg1 (tCons tNeg1 tNil))
noncomputable def iDown(ta:TA):TI:=λσ H R=>ta σ H λvs H1=>∃i:Int,vs=[.int i,.int (-1),.int (-1)]/\(-(2^62)<=i/\i<2^62)/\R (Itd i (i+1).toNat) H1
noncomputable def tSummedB(K:PySem.W.Frag)(E1 E2:St->XK):TS:=
 tSeq (tAsg tDNewK (gName 1)) (tSeq (tFor (iDown (tRange K)) (gName 2)
  (tSeq (tAsg (tCall spTimes E1 (tCons (tVar 1) tNil)) (gName 1)) (tSeq (tAsg (tDM (rGet2 K) (tVar 0) (tCons (tVar 2) (tCons tDNewK tNil))) (gName 3))
   (tFor (iItems (tDM0 rItems (tVar 3))) (gTwo K 4 5) (tDrop (tCall (spAdd K) E2 (tCons (tVar 1) (tCons (tVar 4) (tCons (tVar 5) tNil))))))))) (tRet (tVar 1)))
noncomputable abbrev stP(f:List (Int×Int))(x:Int×Int):List (Int×Int):=addA f x.1 x.2
theorem stP_len(t:List (Int×Int))(x:Int×Int):t.length<=(stP t x).length:=(aF t _ _).2
theorem max_is(h1:M∈x::r)(h2:∀a∈x::r,a<=M):M=maxI x r:=by
 have a:=gF r x M h1;have b:=h2 _ (hV r x);omega
theorem nD{K:PySem.W.Frag}(h:spSummed vs H Q E'):
  tSummedB K E1 E2 {nx:=λ_ H'=>Q .non H',rt:=Q} (start ["by_rings","powers","rings","added","power","number"] vs) H:=by
 obtain⟨br,b,as,t,rfl,hB,hbr,hne,hm1,hm2,hsum,q⟩:=h;have hs:(5000:Nat)<sizeLine:=by rw[sizeLine_eq];decide
 have hbn:H br≠none:=rd_ne hB.rd;intro p0 hp0;dsimp only[gName,tSeq];show tFor _ _ _ _ ([some (.ref br),some (.ref p0),none,none,none,none]:St) (upd H p0 (.dK []));have notin:∀{p:Addr},H p=none->p≠br/\p∉as:=λ{p} hp=>by
  refine⟨λe=>hbn (e▸hp),λhm=>?_⟩;obtain⟨i,hi,e⟩:=List.mem_iff_getElem.mp hm;have hi':i<(b.zip as).length:=by rw[List.length_zip,←hB.len];omega
  have hz:=hB.inn _ (zS hi');rw[List.getElem_zip] at hz;exact rd_ne hz (by show H as[i]=none;rw[e];exact hp)
 have x0:Exc (br::as) H (upd H p0 (.dK [])):=(Exc.refl _ H).new hp0;have B0:BR (upd H p0 (.dK [])) br b as:=hB.keep λa o _ e=>by rw[aA (aB e hp0)];exact e
 obtain⟨x,r,hk⟩:∃x r,b.map (·.1)=x::r:=by
  cases b with
  |nil=>exact absurd rfl hne
  |cons y b=>exact⟨_,_,rfl⟩
 have hmax:maxB b=maxI x r:=by unfold maxB;rw[hk]
 generalize hM:maxB b=M at*;refine wP (ta:=tRange K) ?_ ?_
 ·--the number of rings
  refine⟨.ref br,rfl,br,_,rfl,B0.rd,λl hl=>⟨l,b.map (·.1),rfl,.inl (.inl ?_),by rw[hk];simp,λM' h1 h2=>?_⟩⟩
  ·rw[upd_same]
   congr 2
   rw[zY,zY];have:((b.zip as).map (Prod.fst))=b:=List.map_fst_zip (by rw[hB.len];exact yP _)
   conv=>rhs;rw[←this]
   rw[zY];rfl
  ·rw[hk] at h1 h2
   have e:M'=M:=by rw[hmax];exact max_is h1 h2
   subst e;refine⟨1,rfl,1,rfl,M',rfl,⟨by omega,by omega⟩,λk σ H'=>∃p f c d e g,σ=[some (.ref br),some (.ref p),c,d,e,g]/\H p=none/\H' p=some (.dK (kvI f))/\keysNd f/\f.length<=5000/\sumO (atB b) ((M'+1).toNat-k) f=some t/\BR H' br b as/\Exc (br::as) H H',
    ⟨p0,[],_,_,_,_,rfl,hp0,by rw[aA (aB (by rw[upd_same]:upd H p0 (.dK []) p0=_) hl),upd_same];rfl,z0,by simp,by rw[Nat.sub_zero];exact hsum,B0.keep λa o _ z=>by rw[aA (aB z hl)];exact z,x0.new hl⟩,λσ H' qQ=>?_,λk σ H' qQ hk'=>?_⟩
   ·obtain⟨p,f,c,d,e,g,e1,e2,e3,e4,_,e5,e6,e7⟩:=qQ
    rw[Nat.sub_self] at e5;cases e5;subst e1;exact⟨.ref p,rfl,q p H' e2 e3 e7⟩
   ·obtain⟨p,f,c,d,e,g,e1,e2,e3,e4,e4',e5,e6,e7⟩:=qQ
    subst e1;obtain⟨n,hn⟩:∃n,(M'+1).toNat-k=n+1:=⟨(M'+1).toNat-k-1,by omega⟩
    have hr:M'-(k:Nat)=(n:Int):=by omega
    rw[hn,sumO] at e5;by_cases hc:(tmR f).length<=5000/\(putA (tmR f) (atB b n)).length<=5000
    ·rw[yM hc] at e5
     refine⟨.ref p,rfl,?_⟩;dsimp only[tNil];refine⟨p,f,rfl,.inl e3,hc.1,λp1 H1 h1 h2 h3=>?_⟩;have hp:p≠br/\p∉as:=notin e2;have hp1':H p1=none:=e7.free (by
      intro z;rcases List.mem_cons.mp z with z|z
      ·subst z;exact rd_ne e6.rd h1
      ·obtain⟨i,hi,e⟩:=List.mem_iff_getElem.mp z
       have hi':i<(b.zip as).length:=by rw[List.length_zip,←hB.len];omega
       have hz:=e6.inn _ (zS hi');rw[List.getElem_zip] at hz;exact rd_ne hz (by show H' as[i]=none;rw[e];exact h1)) h1
     have hp1:p1≠br/\p1∉as:=notin hp1';have B1:BR H1 br b as:=e6.keep λa o ha z=>h3.ot a o (by
      intro y;have y:=List.mem_singleton.mp y;subst y;rcases ha with ha|ha
      ·exact hp.1 ha
      ·exact hp.2 ha) z
     have X1:Exc (br::as) H H1:=e7.comp h3 λy hy=>.inr (by rw[List.mem_singleton.mp hy];exact e2);show tSeq _ _ _ ([some (.ref br),some (.ref p1),some (.int (M'-(k:Nat))),d,e,g]:St) H1;rw[hr];refine⟨.ref br,rfl,⟨br,_,_,rfl,.k _,B1.rd⟩,.int n,rfl,λe0 he0=>?_⟩;have he0':H e0=none:=X1.free (by
      intro z;rcases List.mem_cons.mp z with z|z
      ·subst z;exact rd_ne B1.rd he0
      ·obtain⟨i,hi,e⟩:=List.mem_iff_getElem.mp z
       have hi':i<(b.zip as).length:=by rw[List.length_zip,←hB.len];omega
       have hz:=B1.inn _ (zS hi');rw[List.getElem_zip] at hz;exact rd_ne hz (by show H1 as[i]=none;rw[e];exact he0)) he0
     have B2:BR (upd H1 e0 (.dK [])) br b as:=B1.keep λa o _ z=>by rw[aA (aB z he0)];exact z
     have X2:Exc (br::as) H (upd H1 e0 (.dK [])):=X1.new he0;have hp1e:p1≠e0:=aB h2 he0;have P2:upd H1 e0 (.dK []) p1=some (.dK (kvI (tmR f))):=by rw[aA hp1e];exact h2
     --what is walked
     obtain⟨a',ha1,ha2,ha3,ha4,hpa⟩:∃a',(((valV ((b.zip as).map λx=>((Sum.inl x.1.1:Key),V.ref x.2)) (Sum.inl (n:Int))).getD (.ref e0))=.ref a')/\Rd (upd H1 e0 (.dK [])) a' (.dK (kvI (atB b n)))/\(a'∈(br::as)\/H a'=none)/\a'≠br/\p1≠a':=by
      rcases B2.get n with⟨a,m,v,rd⟩|⟨v,em⟩
      ·exact⟨a,by rw[v];rfl,rd,.inl (yR _ m),λz=>hbr (z▸m),λz=>hp1.2 (z▸m)⟩
      ·refine⟨e0,by rw[v];rfl,.inl (by rw[upd_same,em];rfl),.inr he0',λz=>?_,hp1e⟩
       subst z;exact rd_ne B1.rd he0
     refine⟨br,.int n,.ref e0,_,rfl,rfl,.inl (.inl ⟨_,Sum.inl (n:Int),B2.rd,rfl,rfl⟩),?_⟩;rw[ha1];dsimp only[gName];show tFor _ _ _ _ ([some (.ref br),some (.ref p1),some (.int n),some (.ref a'),e,g]:St) _;have ll:((atB b n).map λx=>(V.int x.1,V.int x.2)).length=(atB b n).length:=by simp
     refine cG (K:=K) (λo i σ H'=>∃c d,σ=[some (.ref br),some (.ref p1),some (.int n),some (.ref a'),c,d]/\H' a'=some (.frz o (.dK (kvI (atB b n))))/\H' p1=some (.dK (kvI (((atB b n).take i).foldl stP (tmR f))))/\BR H' br b as/\Exc (br::as) H H') rfl (d6 _) ha2 (λo v hv hvd hsm=>?_) (λo i σ H' qQ=>by obtain⟨_,_,_,z,_⟩:=qQ;exact z) (λo σ H' qQ=>?_) (λo i σ H' w x y qQ hx hw=>?_)
     ·have hvp:p1≠v:=aB P2 hv
      exact⟨_,_,rfl,upd_same,by rw[aA hpa,aA hvp];exact P2,B2.walk ha2 hv ha4,X2.walk (d6 _) ha2 ha3 hv hsm⟩
     ·obtain⟨c,d,z1,z2,z3,z4,z5⟩:=qQ
      rw[ll,zV] at z3;exact⟨p1,_,_,_,_,_,z1,hp1',z3,gD (eQ f) _,hc.2,by rw[show(M'+1).toNat-(k+1)=n by omega];exact e5,z4,z5⟩
     ·obtain⟨c,d,z1,z2,z3,z4,z5⟩:=qQ
      subst z1;obtain⟨z,hz,ez⟩:=pJ hx;cases ez;obtain⟨pp,nn⟩:=z;generalize hT:((atB b n).take i).foldl stP (tmR f)=T at z3;have hT':((atB b n).take (i+1)).foldl stP (tmR f)=stP T (pp,nn):=by rw[eW stP _ _ hz,hT]
      have hle:(stP T (pp,nn)).length<=5000:=by rw[←hT'];exact zB (j5 stP stP_len _ _ (i+1)) hc.2
      have ndT:keysNd T:=by rw[←hT];exact dY _ (λt x h=>aQ h _ _) _ _ (eQ f)
      have l1:=aF T pp nn;have hwp:p1≠w:=aB z3 hw;have hwa:a'≠w:=aB z2 hw;show tDrop _ _ ([some (.ref br),some (.ref p1),some (.int n),some (.ref a'),some (.int pp),some (.int nn)]:St) _;refine⟨.ref p1,rfl,.int pp,rfl,.int nn,rfl,?_⟩;dsimp only[tNil];show spAdd K [.ref p1,.int pp,.int nn] _ _ _;have z3':upd H' w (.tup [V.int pp,V.int nn]) p1=some (.dK (kvI T)):=by rw[aA hwp];exact z3
      have hl3:(addA T pp nn).length<=5000:=hle;refine rG z3' ndT (by omega) ⟨_,_,rfl,by rw[aA (zL hpa),aA hwa];exact z2,by rw[upd_same,hT'],?_,?_⟩
      ·refine z4.keep λa o ha z=>?_
       rw[aA (by
        rintro rfl;rcases ha with ha|ha
        ·exact hp1.1 ha
        ·exact hp1.2 ha),aA (aB z hw)]
       exact z
      ·exact(z5.new hw).put z3' (.inr hp1') (λxs z=>by cases z) λob v z=>by cases z
    ·rw[yK hc] at e5;cases e5
 ·intro σ H Q Q' h k
  obtain⟨v,h1,d,kvs,h2,h3,h4⟩:=h;refine⟨v,h1,d,kvs,h2,h3,λl hl=>?_⟩;obtain⟨p,ys,y1,y2,y3,y4⟩:=h4 l hl;refine⟨p,ys,y1,y2,y3,λM hM hM'=>?_⟩;obtain⟨i,e1,j,e2,z⟩:=y4 M hM hM';exact⟨i,e1,j,e2,k _ _ z⟩
end L2.Snd
namespace Py
theorem eY(b:List (Int×List (Int×Int)))(g p n:Int):(∃i T,b[i]?=some (g,T)/\(∀j y,j<i->b[j]?=some y->y.1≠g)/\addB b g p n=b.set i (g,addA T p n))\/(g∉b.map (·.1)/\addB b g p n=b++[(g,addA [] p n)]):=by
 induction b with
 |nil=>exact .inr ⟨by simp,rfl⟩
 |cons x b ih=>
  obtain⟨a,t⟩:=x;by_cases e:a=g
  ·subst e
   exact .inl ⟨0,t,rfl,λj y hj=>by omega,by rw[addB,yM rfl];rfl⟩
  ·rcases ih with⟨i,T,h1,h2,h3⟩|⟨h1,h2⟩
   ·refine .inl ⟨i+1,T,by simpa using h1,λj y hj hy=>?_,by rw[addB,yK e,h3];rfl⟩
    cases j with
    |zero=>simp at hy;subst hy;exact e
    |succ j=>exact h2 j y (by omega) (by simpa using hy)
   ·refine .inr ⟨?_,by rw[addB,yK e,h2];rfl⟩
    simp only[yQ,zA,not_or];exact⟨λz=>e z.symm,h1⟩
end Py
namespace L2.Snd
open PySem PySem.Spec PyProof.Rows L2 Py
noncomputable abbrev kvR(b:List (Int×List (Int×Int)))(as:List Addr):List (Key×V):=(b.zip as).map λx=>((Sum.inl x.1.1:Key),V.ref x.2)
theorem lE:∀{b:List (Int×List (Int×Int))}{as:List Addr}{i:Nat}{g:Int}{T:List (Int×Int)}{a:Addr},b[i]?=some (g,T)->as[i]?=some a->(∀j y,j<i->b[j]?=some y->y.1≠g)->valV (kvR b as) (Sum.inl g)=some (.ref a)
 |x::b,a'::as,0,g,T,a,h1,h2,_=>by
  simp at h1 h2;subst h1 h2;simp[kvR,valV]
 |x::b,a'::as,i+1,g,T,a,h1,h2,h3=>by
  have e:¬(Sum.inl x.1:Key)=Sum.inl g:=λz=>h3 0 x (by omega) rfl (Sum.inl.inj z);have:=lE (b:=b) (as:=as) (i:=i) (g:=g) (T:=T) (a:=a) (by simpa using h1) (by simpa using h2) λj y hj hy=>h3 (j+1) y (by omega) (by simpa using hy);simp only[kvR,valV,List.zip_cons_cons,yQ,zU,e,aAT] at this⊢;exact this
 |[],_,_,_,_,_,h1,_,_=>by simp at h1
 |_::_,[],_,_,_,_,_,h2,_=>by simp at h2
theorem d7:∀{b:List (Int×List (Int×Int))}{as:List Addr}{g:Int},g∉b.map (·.1)->valV (kvR b as) (Sum.inl g)=none
 |[],_,_,_=>rfl
 |_::_,[],_,_=>rfl
 |x::b,a::as,g,h=>by
  simp only[yQ,zA,not_or] at h;have e:¬(Sum.inl x.1:Key)=Sum.inl g:=λz=>h.1 (Sum.inl.inj z).symm;have:=d7 (b:=b) (as:=as) h.2;simp only[kvR,valV,List.zip_cons_cons,yQ,zU,e,aAT] at this⊢;exact this
theorem rH:∀{B:List (Int×List (Int×Int))}{as:List Addr}{j:Nat}{g:Int}{T T':List (Int×Int)},B[j]?=some (g,T)->kvR B as=kvR (B.set j (g,T')) as
 |x::B,[],j,g,T,T',_=>by cases j<;>rfl
 |x::B,a::as,0,g,T,T',h=>by
  simp at h;subst h;rfl
 |x::B,a::as,j+1,g,T,T',h=>by
  have:=rH (as:=as) (T':=T') (show B[j]?=some (g,T) by simpa using h);simp only[kvR,aAJ,List.zip_cons_cons,yQ] at this⊢;rw[this]
 |[],_,_,_,_,_,h=>by simp at h
structure BW(H:Hp)(br:Addr)(b:List (Int×List (Int×Int)))(as:List Addr):Prop where
 len:as.length=b.length
 at_:H br=some (.dK (kvR b as))
 inn:∀(i:Nat) x a,b[i]?=some x->as[i]?=some a->H a=some (.dK (kvI x.2))/\keysNd x.2
 nd:as.Nodup
 nb:br∉as
theorem BW.br{H:Hp}{br:Addr}{b:List (Int×List (Int×Int))}{as:List Addr}(h:BW H br b as):BR H br b as:=by
 refine⟨h.len,.inl h.at_,λx hx=>?_⟩;obtain⟨i,hi,e⟩:=List.mem_iff_getElem.mp hx;rw[List.getElem_zip] at e;subst e;exact .inl (h.inn i _ _ (yS _) (yS _)).1
theorem BW.keep{H H':Hp}{br:Addr}{b:List (Int×List (Int×Int))}{as:List Addr}(h:BW H br b as)(e:∀a o,(a=br\/a∈as)->H a=some o->H' a=some o):BW H' br b as:=
 ⟨h.len,e br _ (.inl rfl) h.at_,λi x a h1 h2=>⟨e a _ (.inr (aAA h2)) (h.inn i x a h1 h2).1,(h.inn i x a h1 h2).2⟩,h.nd,h.nb⟩
noncomputable def spBy(K:PySem.W.Frag):Sp:=λvs H Q _=>∃c kvs t,vs=[.ref c]/\Rd H c (.dN kvs)/\TN K H kvs t/\t.length<=5000/\∀br as H',H br=none->(∀a∈as,H a=none)->BW H' br (byR t) as->Exc [c] H H'->Q (.ref br) H'
noncomputable def tSt(K:PySem.W.Frag)(i:Int)(t:TE):TE:=tOp (rIxT K) t (tC (.int i))
noncomputable def tByB(K:PySem.W.Frag)(E:St->XK):TS:=
 tSeq (tAsg tDNewK (gName 1)) (tSeq (tFor (iItems (tDM0 rItems (tVar 0))) (gTwo K 2 3) (tDrop (tCall (spAdd K) E (tCons (tDM rSetD (tVar 1) (tCons (tSt K 1 (tSt K 0 (tVar 2))) (tCons tDNewK tNil))) (tCons (tSt K 1 (tVar 2)) (tCons (tVar 3) tNil)))))) (tRet (tVar 1)))
theorem rJ{K:PySem.W.Frag}(h:TN K H kvs t){i:Nat}(e:(kvs.map λx=>(V.ref x.2.1,x.2.2))[i]?=some (x,y)):
  ∃k n b,t[i]?=some (k,n)/\x=.ref b/\y=.int n/\NkV K H (nkOf k) (.ref b):=by
 obtain⟨z,hz,ez⟩:=pJ e;cases ez;obtain⟨w,hw,h1,h2⟩:=Paired.gets h.pr hz;refine⟨w.1,w.2,z.2.1,hw,rfl,h2,?_⟩;rw[←h1];exact h.ks z (aAA hz)
theorem nE{K:PySem.W.Frag}(h:NkV K H (nkOf k) (.ref b)):∃s r,SqT K H b [.ref s,.int k.2]/\SqT K H s [r,.int k.1.2]/\NkV K H (nkS k.1) (.ref s):=by
 rw[nkOf,NkV] at h;obtain⟨a,vs,e,q,hl⟩:=h;cases e;simp only[NkVs] at hl;obtain⟨v,r,rfl,h1,v2,r2,rfl,h2,rfl⟩:=hl;have h2':v2=.int k.2:=by rw[NkV] at h2;exact h2
 subst h2';have h1':=h1;rw[nkS,NkV] at h1;obtain⟨s,vs,rfl,q2,hl2⟩:=h1;simp only[NkVs] at hl2;obtain⟨u,r',rfl,g1,u2,r2',rfl,g2,rfl⟩:=hl2;have g2':u2=.int k.1.2:=by rw[NkV] at g2;exact g2
 subst g2';exact⟨s,u,q,q2,h1'⟩
theorem j6:∀(t:List (Sk×Int))(f:List (Int×List (Int×Int))),(∀x∈f,x.2.length+t.length<=5000)->t.length<=5000->∀x∈t.foldl (λf x=>addB f x.1.1.2 x.1.2 x.2) f,x.2.length<=5000
 |[],f,h,_,x,hx=>by have:=h x hx;simpa using this
 |y::t,f,h,hl,x,hx=>by
  refine j6 t _ (λz hz=>?_) (by simp at hl;omega) x hx;simp only[yJ] at h hl;change z∈addB f y.1.1.2 y.1.2 y.2 at hz;rcases eY f y.1.1.2 y.1.2 y.2 with⟨i,T,h1,_,h3⟩|⟨_,h2⟩
  ·rw[h3] at hz
   rcases List.mem_or_eq_of_mem_set hz with hz|hz
   ·have:=h z hz;omega
   ·subst hz
    have:=h _ (aAA h1);have:=aF T y.1.2 y.2;show(addA T y.1.2 y.2).length+_<=_;simp only at*;omega
  ·rw[h2] at hz
   rcases List.mem_append.mp hz with hz|hz
   ·have:=h z hz;omega
   ·rw[List.mem_singleton.mp hz]
    show(addA [] _ _).length+_<=_;simp only[addA,yJ,y7];omega
theorem by_body{K:PySem.W.Frag}(h:spBy K vs H Q E'):
  tByB K E {nx:=λ_ H'=>Q .non H',rt:=Q} (start ["counts","found","state","number"] vs) H:=by
 obtain⟨c,kvs,t,rfl,hr,hT,hl,q⟩:=h;have hs:(5000:Nat)<sizeLine:=by rw[sizeLine_eq];decide
 intro br hbr;dsimp only[gName,tSeq];show tFor _ _ _ _ ([some (.ref c),some (.ref br),none,none]:St) (upd H br (.dK []));have hbc:br≠c:=by rintro rfl;exact rd_ne hr hbr
 have hr1:Rd (upd H br (.dK [])) c (.dN kvs):=cH hr λo e=>by rw[aA (zL hbc)];exact e
 have x1:Exc [c] H (upd H br (.dK [])):=(Exc.refl [c] H).new hbr;have ll:(kvs.map λx=>(V.ref x.2.1,x.2.2)).length=t.length:=by rw[yI];exact Paired.length hT.pr
 refine cG (K:=K) (λo i σ H'=>∃as a b,σ=[some (.ref c),some (.ref br),a,b]/\H' c=some (.frz o (.dN kvs))/\BW H' br (byR (t.take i)) as/\(∀a∈as,H a=none)/\Exc [c] H H') rfl (.n kvs) hr1 (λo v hv hvd hsm=>?_) (λo i σ H' qQ=>by obtain⟨_,_,_,_,z,_⟩:=qQ;exact z) (λo σ H' qQ=>?_) (λo i σ H' w x y qQ hx hw=>?_)
 ·have hvb:br≠v:=aB (by rw[upd_same]:upd H br (.dK []) br=_) hv
  refine⟨[],none,none,rfl,upd_same,⟨rfl,?_,λi x a h=>by simp[byR] at h,z0,by simp⟩,λa ha=>by simp at ha,x1.walk (.n kvs) hr1 (.inl (by simp)) hv hsm⟩;rw[aA hbc,aA hvb,upd_same];rfl
 ·obtain⟨as,a,b,e1,e2,e3,e4,e5⟩:=qQ
  rw[ll,zV] at e3;subst e1;exact⟨.ref br,rfl,q br as H' hbr e4 e3 e5⟩
 ·obtain⟨as,a,b,e1,e2,e3,e4,e5⟩:=qQ
  subst e1;have hT1:TN K H' kvs t:=hT.kp e5.kp;obtain⟨k,n,kb,hk,rfl,rfl,hkv⟩:=rJ hT1 hx;obtain⟨s,r,q1,q2,_⟩:=nE hkv;have hwc:c≠w:=aB e2 hw;have kp2:Kp H' (upd H' w (.tup [V.ref kb,V.int n])):=((Exc.refl [] H').new hw).kp;have bt:byR (t.take (i+1))=addB (byR (t.take i)) k.1.2 k.2 n:=eW _ t [] hk;generalize hB:byR (t.take i)=B at e3 bt;have small:∀x∈addB B k.1.2 k.2 n,x.2.length<=5000:=by
   rw[←bt];exact j6 (t.take (i+1)) [] (λx hx=>by simp at hx) (by rw[zO];omega)
  have lenB:B.length<=5000:=by
   have:=lA (t.take i) [];rw[show(t.take i).foldl (λf x=>addB f x.1.1.2 x.1.2 x.2) []=B from hB] at this;rw[zO] at this;simp at this;omega
  show tDrop _ _ ([some (.ref c),some (.ref br),some (.ref kb),some (.int n)]:St) _;have e3w:BW (upd H' w (.tup [V.ref kb,V.int n])) br B as:=e3.keep λa o _ z=>by rw[aA (aB z hw)];exact z
  refine⟨.ref br,rfl,⟨br,_,_,rfl,.k _,.inl e3w.at_⟩,.ref kb,rfl,kb,_,0,.ref s,rfl,rfl,kp2.sqT q1,rfl,s,_,1,.int k.1.2,rfl,rfl,kp2.sqT q2,rfl,λe0 he0=>?_⟩;dsimp only[tNil];generalize hH1:upd H' w (.tup [V.ref kb,V.int n])=H1 at e3w he0 kp2;have X1:Exc [c] H H1:=by rw[←hH1];exact e5.new hw
  have c1:H1 c=some (.frz o (.dN kvs)):=by rw[←hH1,aA hwc];exact e2
  have he0':H e0=none:=X1.free (by
   intro z;rw[List.mem_singleton.mp z,c1] at he0;cases he0) he0
  have e0b:br≠e0:=aB e3w.at_ he0;have e0c:c≠e0:=aB c1 he0;have W2:BW (upd H1 e0 (.dK [])) br B as:=e3w.keep λa o _ z=>by rw[aA (aB z he0)];exact z
  have X2:Exc [c] H (upd H1 e0 (.dK [])):=X1.new he0;have kp3:Kp H' (upd H1 e0 (.dK [])):=kp2.trans ((Exc.refl [] H1).new he0).kp;have c2:upd H1 e0 (.dK []) c=some (.frz o (.dN kvs)):=by rw[aA e0c];exact c1
  have lenK:(kvR B as).length<=5000:=by
   show((B.zip as).map _).length<=5000;rw[yI,List.length_zip];omega
  have nT:∀(xs:List V)(kv:List (Key×V)),HO.dK kv≠.tup xs:=λ_ _ z=>by cases z
  have nF:∀(ob:Obj)(v:HO)(kv:List (Key×V)),HO.dK kv≠.frz ob v:=λ_ _ _ z=>by cases z
  --the table and its place
  have last:∀(a:Addr)(T:List (Int×Int))(H2:Hp),Kp H' H2->H2 a=some (.dK (kvI T))->keysNd T->T.length<sizeLine->
    (∃as',BW (upd H2 a (.dK (kvI (addA T k.2 n)))) br (addB B k.1.2 k.2 n) as'/\(∀a∈as',H a=none)/\upd H2 a (.dK (kvI (addA T k.2 n))) c=some (.frz o (.dN kvs))/\Exc [c] H (upd H2 a (.dK (kvI (addA T k.2 n)))))->
    tCons (tSt K 1 (tVar 2)) (tCons (tVar 3) tNil) [some (.ref c),some (.ref br),some (.ref kb),some (.int n)] H2 λxs H3=>spAdd K (.ref a::xs) H3 (λ_ H4=>∃as a b,([some (.ref c),some (.ref br),some (.ref kb),some (.int n)]:St)=[some (.ref c),some (.ref br),a,b]/\H4 c=some (.frz o (.dN kvs))/\BW H4 br (byR (t.take (i+1))) as/\(∀a∈as,H a=none)/\Exc [c] H H4) (E [some (.ref c),some (.ref br),some (.ref kb),some (.int n)]):=by
   rintro a T H2 kp4 ha ndT hlT ⟨as',z1,z2,z3,z4⟩;refine⟨.ref kb,rfl,kb,_,1,.int k.2,rfl,rfl,kp4.sqT q1,rfl,.int n,rfl,?_⟩;dsimp only[tNil];exact rG ha ndT hlT ⟨as',_,_,rfl,z3,by rw[bt];exact z1,z2,z4⟩
  refine⟨br,kvR B as,Sum.inl k.1.2,.ref e0,rfl,rfl,W2.at_,by omega,λv hv=>?_,λhv=>?_⟩
  ·rcases eY B k.1.2 k.2 n with⟨j,T,h1,h2,h3⟩|⟨h1,_⟩
   ·have hj:j<as.length:=by rw[W2.len];exact(List.getElem?_eq_some_iff.mp h1).1
    have ha:as[j]?=some as[j]:=yS hj;rw[lE h1 ha h2] at hv;cases hv;obtain⟨i1,i2⟩:=W2.inn j _ _ h1 ha;have mem:as[j]∈as:=zS hj;have hT5:(addA T k.2 n).length<=5000:=small (k.1.2,addA T k.2 n) (by rw[h3];exact List.mem_iff_getElem?.mpr ⟨j,by rw[zD (by have:=(List.getElem?_eq_some_iff.mp h1).1;exact this)]⟩);have l1:=aF T k.2 n;have nbr:br≠as[j]:=λz=>W2.nb (z▸mem);refine last as[j] T _ kp3 i1 i2 (by omega) ⟨as,⟨by rw[h3,List.length_set];exact W2.len,?_,λi' x' a' g1 g2=>?_,W2.nd,W2.nb⟩,e4,?_,?_⟩
    ·rw[aA nbr,W2.at_,h3]
     congr 2
     exact rH h1
    ·rw[h3] at g1
     by_cases hm:j=i'
     ·subst hm
      rw[zD (List.getElem?_eq_some_iff.mp h1).1] at g1;cases g1;rw[ha] at g2;cases g2;exact⟨upd_same,aQ i2 _ _⟩
     ·rw[zI hm] at g1
      obtain⟨y1,y2⟩:=W2.inn i' x' a' g1 g2;refine⟨?_,y2⟩;rw[aA (λz=>hm ?_)]
      ·exact y1
      ·subst z
       exact(List.getElem?_inj hj W2.nd).mp (ha.trans g2.symm)
    ·rw[aA (λz=>?_)]
     ·exact c2
     ·rw[←z,c2] at i1;cases i1
    ·exact X2.put i1 (.inr (e4 _ mem)) (λxs=>nT xs _) λob v=>nF ob v _
   ·rw[d7 h1] at hv;cases hv
  ·rcases eY B k.1.2 k.2 n with⟨j,T,h1,h2,h3⟩|⟨h1,h2⟩
   ·have hj:j<as.length:=by rw[W2.len];exact(List.getElem?_eq_some_iff.mp h1).1
    rw[lE h1 (yS hj) h2] at hv;cases hv
   ·have hput:putK (kvR B as) (Sum.inl k.1.2) (V.ref e0)=kvR (B++[(k.1.2,addA [] k.2 n)]) (as++[e0]):=by
     have hany:((kvR B as).any λkv=>decide (kv.1=(Sum.inl k.1.2:Key)))=false:=by
      rw[List.any_eq_false];intro kv hkv;obtain⟨z,hz,rfl⟩:=List.mem_map.mp hkv;have:=(List.of_mem_zip hz).1;simp only[zQ];intro e;exact h1 (List.mem_map.mpr ⟨z.1,this,Sum.inl.inj e⟩)
     unfold putK;rw[hany,yK yL];show _=((B++_).zip (as++_)).map _;rw[List.zip_append (by rw[W2.len]),zW];rfl
    have mem_ne:∀a∈as,a≠e0:=λa ha z=>by
     subst z;obtain⟨j,hj,e⟩:=List.mem_iff_getElem.mp ha;have hj':j<B.length:=by rw[←W2.len];exact hj
     have:=(e3w.inn j _ _ (yS hj') (by rw[yS hj,e])).1;rw[he0] at this;cases this
    have e0at:upd (upd H1 e0 (.dK [])) br (.dK (putK (kvR B as) (Sum.inl k.1.2) (V.ref e0))) e0=some (.dK (kvI [])):=by rw[aA (zL e0b),upd_same];rfl
    have nbm:∀a∈as,a≠br:=λa ha z=>W2.nb (z▸ha);have X3:Exc [c] H (upd (upd H1 e0 (.dK [])) br (.dK (putK (kvR B as) (Sum.inl k.1.2) (V.ref e0)))):=X2.put W2.at_ (.inr hbr) (λxs=>nT xs _) λob v=>nF ob v _;have kp4:Kp H' (upd (upd H1 e0 (.dK [])) br (.dK (putK (kvR B as) (Sum.inl k.1.2) (V.ref e0)))):=kp3.trans ((Exc.refl [br] _).put W2.at_ (.inl (by simp)) (λxs=>nT xs _) λob v=>nF ob v _).kp;refine last e0 [] _ kp4 e0at z0 (by show 0<sizeLine;omega) ⟨as++[e0],⟨by rw[h2,yY,yY,W2.len];rfl,?_,λi' x' a' g1 g2=>?_,?_,?_⟩,λa ha=>?_,?_,?_⟩
    ·rw[aA e0b,upd_same,h2,hput]
    ·rw[h2] at g1
     by_cases hm:i'<B.length
     ·rw[zG hm] at g1
      rw[zG (by rw[W2.len];exact hm)] at g2;obtain⟨y1,y2⟩:=W2.inn i' x' a' g1 g2;have hma:=aAA g2;exact⟨by rw[aA (mem_ne _ hma),aA (nbm _ hma)];exact y1,y2⟩
     ·have hm':i'=B.length:=by
       have:=(List.getElem?_eq_some_iff.mp g1).1;simp at this;omega
      subst hm';rw[zF (yP _),Nat.sub_self] at g1;rw[zF (by rw[W2.len];exact yP _),W2.len,Nat.sub_self] at g2;cases g1;cases g2;exact⟨upd_same,aQ (t:=[]) z0 _ _⟩
    ·rw[List.nodup_append]
     exact⟨W2.nd,by simp,λa ha b hb=>by rw[List.mem_singleton.mp hb];exact mem_ne a ha⟩
    ·intro z
     rcases List.mem_append.mp z with z|z
     ·exact W2.nb z
     ·exact e0b (List.mem_singleton.mp z)
    ·rcases List.mem_append.mp ha with z|z
     ·exact e4 a z
     ·rw[List.mem_singleton.mp z];exact he0'
    ·rw[aA e0c,aA (λz=>hbc z.symm)];exact c2
    ·exact X3.put e0at (.inr he0') (λxs=>nT xs _) λob v=>nF ob v _
end L2.Snd
namespace Py
theorem iA:∀{xs:List D}{r:List Int},intsI xs=some r->xs=r.map .int
 |[],r,h=>by simp[intsI] at h;subst h;rfl
 |x::xs,r,h=>by
  cases x with
  |int i=>
   rw[intsI] at h
   cases e:intsI xs with
   |none=>rw[e] at h;cases h
   |some q=>rw[e] at h;cases h;rw[iA e];rfl
  |_=>simp[intsI] at h
theorem iB:∀{xs:List D}{r:List (List Int)},rowsI xs=some r->xs=r.map rowT
 |[],r,h=>by simp[rowsI] at h;subst h;rfl
 |x::xs,r,h=>by
  cases x with
  |tup ys=>
   rw[rowsI] at h
   cases e1:intsI ys with
   |none=>rw[e1] at h;cases h
   |some q=>
    cases e:rowsI xs with
    |none=>rw[e1,e] at h;cases h
    |some q'=>rw[e1,e] at h;cases h;rw[iB e,iA e1];rfl
  |_=>simp[rowsI] at h
theorem d8(h:asSheet d=some s):d=toSheet s:=by
 unfold asSheet at h;split at h
 ·rename_i rows g
  cases e:rowsI rows with
  |none=>rw[e] at h;cases h
  |some r=>rw[e] at h;cases h;rw[iB e];rfl
 ·cases h
noncomputable def soD(Φ:Nat->List D->R D)(f:Nat)(s:Sx)(w:Int):Option Sx:=(okO (Φ f [toSheet s,.int 0,.int w])).bind asSheet
theorem wR(h:soD Φ f s w=some s'):Φ f [toSheet s,.int 0,.int w]=.ok (toSheet s'):=by
 unfold soD at h
 cases e:Φ f [toSheet s,.int 0,.int w] with
 |ok d=>rw[e] at h;rw[d8 (s:=s') h]
 |exc c=>rw[e] at h;cases h
 |bad=>rw[e] at h;cases h
theorem rK:∀(t f t':List (Sk×Int)),spO so t f=some t'->f.length<=t'.length
 |[],f,t',h=>by cases h;exact yP _
 |x::t,f,t',h=>by
  rw[spO] at h
  cases e0:so x.1.1 0 with
  |none=>rw[e0] at h;cases h
  |some s0=>
   cases e1:so x.1.1 1 with
   |none=>rw[e0,e1] at h;cases h
   |some s1=>
    rw[e0,e1] at h;have:=rK t _ t' h;have a:=aF f (s0,x.1.2+1) x.2;have b:=aF (addA f (s0,x.1.2+1) x.2) (s1,x.1.2+ -1) x.2;omega
end Py
namespace L2.Snd
open PySem PySem.Spec PyProof.Rows L2 Py
section
variable{K:PySem.W.Frag}{cl:Nat->Addr}{F:Addr->Prop}{H:Hp}
theorem ints_rep:∀{r:List Int}{vs:List V},NkVs K H (r.map .int) vs↔Reps K cl F H (r.map D.int) vs
 |[],vs=>by simp[NkVs,Reps]
 |i::r,vs=>by
  rw[yQ,yQ,NkVs,Reps];constructor
  ·rintro⟨v,q,rfl,h1,h2⟩
   exact⟨v,q,rfl,by rw[NkV] at h1;rw[Rep];exact h1,ints_rep.mp h2⟩
  ·rintro⟨v,q,rfl,h1,h2⟩
   exact⟨v,q,rfl,by rw[Rep] at h1;rw[NkV];exact h1,ints_rep.mpr h2⟩
theorem row_rep:NkV K H (nkRow r) v↔Rep K cl F H (rowT r) v:=by
 rw[nkRow,NkV,rowT,Rep];constructor
 ·rintro⟨a,vs,e,q,h⟩;exact⟨a,vs,e,q,ints_rep.mp h⟩
 ·rintro⟨a,vs,e,q,h⟩;exact⟨a,vs,e,q,(ints_rep (cl:=cl) (F:=F)).mpr h⟩
theorem rows_rep:∀{R:List (List Int)}{vs:List V},NkVs K H (R.map nkRow) vs↔Reps K cl F H (R.map rowT) vs
 |[],vs=>by simp[NkVs,Reps]
 |r::R,vs=>by
  rw[yQ,yQ,NkVs,Reps];constructor
  ·rintro⟨v,q,e,h1,h2⟩;exact⟨v,q,e,row_rep.mp h1,rows_rep.mp h2⟩
  ·rintro⟨v,q,e,h1,h2⟩;exact⟨v,q,e,(row_rep (cl:=cl) (F:=F)).mpr h1,rows_rep.mpr h2⟩
theorem sheet_rep:NkV K H (nkS s) v↔Rep K cl F H (toSheet s) v:=by
 rw[nkS,NkV,toSheet,Rep];simp only[NkVs,Reps,NkV,Rep];constructor
 ·rintro⟨a,vs,e,q,v1,r1,e1,⟨b,ws,e2,q2,h⟩,v2,r2,e3,e4,e5⟩
  exact⟨a,vs,e,q,v1,r1,e1,⟨b,ws,e2,q2,rows_rep.mp h⟩,v2,r2,e3,e4,e5⟩
 ·rintro⟨a,vs,e,q,v1,r1,e1,⟨b,ws,e2,q2,h⟩,v2,r2,e3,e4,e5⟩
  exact⟨a,vs,e,q,v1,r1,e1,⟨b,ws,e2,q2,(rows_rep (cl:=cl) (F:=F)).mpr h⟩,v2,r2,e3,e4,e5⟩
end
theorem pM{K:PySem.W.Frag}(h:NkV K H (nkS s) v)(e:soD Φ f s w=some s')(q:∀v' H',Same H H'->NkV K H' (nkS s') v'->Q v' H'):spOf K cl Φ f [v,.int 0,.int w] H Q E:=by
 refine⟨λ_=>False,[toSheet s,.int 0,.int w],λ_ z=>z.elim,.cons (sheet_rep.mp h) (.cons (by simp[Rep]) (.cons (by simp[Rep]) .nil)),?_⟩;rw[wR e];exact λF' v' H' u r=>q v' H' u.same (sheet_rep.mpr r)
noncomputable def spOnce(K:PySem.W.Frag)(Φ:Nat->List D->R D)(f:Nat):Sp:=λvs H Q _=>∃c kvs t t',vs=[.ref c]/\Rd H c (.dN kvs)/\TN K H kvs t/\spO (soD Φ f) t []=some t'/\t'.length<=5000/\
 ∀fd kvs' H',H fd=none->H' fd=some (.dN kvs')->TN K H' kvs' t'->keysNd t'->Exc [c] H H'->Q (.ref fd) H'
noncomputable def tDNewN:TE:=λ_ H Q=>∀p,H p=none->Q (.ref p) (upd H p (.dN []))
noncomputable def tOnceB(K:PySem.W.Frag)(cl:Nat->Addr)(Φ:Nat->List D->R D)(f:Nat)(sh:V)(E1 E2:St->XK):TS:=
 tSeq (tAsg tDNewN (gName 1)) (tSeq (tFor (iItems (tDM0 rItems (tVar 0))) (gTwo K 2 3) (tFor (iTup K (tTup (tCons (tC (.int 0)) (tCons (tC (.int 1)) tNil)))) (gName 4)
  (tDrop (tCall (spAdd K) E2 (tCons (tVar 1) (tCons (tTup (tCons (tCall (spOf K cl Φ f) E1 (tCons (tSt K 0 (tVar 2)) (tCons (tC (.int 0)) (tCons (tVar 4) tNil)))) (tCons (tAdd (tSt K 1 (tVar 2)) (tOp (rIxT K) (tC sh) (tVar 4))) tNil))) (tCons (tVar 3) tNil))))))) (tRet (tVar 1)))
theorem Exc.same(a:Exc ds H H1)(s:Same H1 H2):Exc ds H H2:=a.trans ⟨⟨λx xs e=>s x _ e,λx o u e=>s x _ e⟩,λx o _ e=>s x o e⟩
theorem tP{K:PySem.W.Frag}(hsh:∀H,SqT K H sh [.int 1,.int (-1)])(h:spOnce K Φ f vs H Q E'):
  tOnceB K cl Φ f (.ref sh) E1 E2 {nx:=λ_ H'=>Q .non H',rt:=Q} (start ["counts","found","state","number","way"] vs) H:=by
 obtain⟨c,kvs,t,t',rfl,hr,hT,hsp,hl,q⟩:=h;have hs:(5000:Nat)<sizeLine:=by rw[sizeLine_eq];decide
 intro fd hfd;dsimp only[gName,tSeq];show tFor _ _ _ _ ([some (.ref c),some (.ref fd),none,none,none]:St) (upd H fd (.dN []));have hfc:fd≠c:=by rintro rfl;exact rd_ne hr hfd
 have hr1:Rd (upd H fd (.dN [])) c (.dN kvs):=cH hr λo e=>by rw[aA (zL hfc)];exact e
 have x1:Exc [c] H (upd H fd (.dN [])):=(Exc.refl [c] H).new hfd;have ll:(kvs.map λx=>(V.ref x.2.1,x.2.2)).length=t.length:=by rw[yI];exact Paired.length hT.pr
 refine cG (K:=K) (λo i σ H'=>∃kv g a b d,σ=[some (.ref c),some (.ref fd),a,b,d]/\H' c=some (.frz o (.dN kvs))/\H' fd=some (.dN kv)/\TN K H' kv g/\keysNd g/\spO (soD Φ f) (t.drop i) g=some t'/\Exc [c] H H') rfl (.n kvs) hr1 (λo v hv hvd hsm=>?_) (λo i σ H' qQ=>by obtain⟨_,_,_,_,_,_,z,_⟩:=qQ;exact z) (λo σ H' qQ=>?_) (λo i σ H' w x y qQ hx hw=>?_)
 ·have hvf:fd≠v:=aB (by rw[upd_same]:upd H fd (.dN []) fd=_) hv
  exact⟨[],[],_,_,_,rfl,upd_same,by rw[aA hfc,aA hvf,upd_same],⟨.nil,λx hx=>by cases hx⟩,z0,hsp,x1.walk (.n kvs) hr1 (.inl (by simp)) hv hsm⟩
 ·obtain⟨kv,g,a,b,d,e1,e2,e3,e4,e5,e6,e7⟩:=qQ
  rw[ll,List.drop_length] at e6;cases e6;subst e1;exact⟨.ref fd,rfl,q fd kv H' hfd e3 e4 e5 e7⟩
 ·obtain⟨kv,g,a,b,d,e1,e2,e3,e4,e5,e6,e7⟩:=qQ
  subst e1;have hT1:TN K H' kvs t:=hT.kp e7.kp;obtain⟨k,n,kb,hk,rfl,rfl,hkv⟩:=rJ hT1 hx;obtain⟨hi,hki⟩:=List.getElem?_eq_some_iff.mp hk;rw[z9 hi,hki,spO] at e6
  cases f0:soD Φ f k.1 0 with
  |none=>rw[f0] at e6;cases e6
  |some s0=>
  cases f1:soD Φ f k.1 1 with
  |none=>rw[f0,f1] at e6;cases e6
  |some s1=>
  rw[f0,f1] at e6;change spO (soD Φ f) (t.drop (i+1)) (addA (addA g (s0,k.2+1) n) (s1,k.2+ -1) n)=some t' at e6;have lg:=rK _ _ _ e6;have l1:=aF g (s0,k.2+1) n;have l2:=aF (addA g (s0,k.2+1) n) (s1,k.2+ -1) n;have hwc:c≠w:=aB e2 hw;have hwf:fd≠w:=aB e3 hw;show tFor _ _ _ _ ([some (.ref c),some (.ref fd),some (.ref kb),some (.int n),d]:St) _;generalize hH1:upd H' w (.tup [V.ref kb,V.int n])=H1;have X1:Exc [c] H H1:=by rw[←hH1];exact e7.new hw
  have kp1:Kp H' H1:=by rw[←hH1];exact((Exc.refl [] H').new hw).kp
  have c1:H1 c=some (.frz o (.dN kvs)):=by rw[←hH1,aA hwc];exact e2
  have f1':H1 fd=some (.dN kv):=by rw[←hH1,aA hwf];exact e3
  have hkv1:NkV K H1 (nkOf k) (.ref kb):=kp1.nk _ hkv;refine lC (K:=K) ?_ ?_
  ·refine⟨by show 2<=sizeLine;omega,λtp htp=>⟨tp,[.int 0,.int 1],rfl,.inl (.inl upd_same),λj σ H2=>∃kv d,σ=[some (.ref c),some (.ref fd),some (.ref kb),some (.int n),d]/\H2 c=some (.frz o (.dN kvs))/\H2 fd=some (.dN kv)/\H2 tp=some (.tup [.int 0,.int 1])/\
    TN K H2 kv (if j=0 then g else if j=1 then addA g (s0,k.2+1) n else addA (addA g (s0,k.2+1) n) (s1,k.2+ -1) n)/\Kp H1 H2/\Exc [c] H H2,?_,λ_ _ _ qQ=>by obtain⟨_,_,_,_,_,z,_⟩:=qQ;exact .inl (.inl z),λσ H2 qQ=>?_,λj σ H2 x qQ hx=>?_⟩⟩
   ·have hct:c≠tp:=aB c1 htp
    have hft:fd≠tp:=aB f1' htp;have E0:=(Exc.refl [] H1).new (o:=.tup [.int 0,.int 1]) htp;exact⟨kv,d,rfl,by rw[aA hct];exact c1,by rw[aA hft];exact f1',upd_same,(e4.kp kp1).kp E0.kp,E0.kp,X1.new htp⟩
   ·obtain⟨kv,d,z1,z2,z3,_,z4,_,z6⟩:=qQ
    exact⟨kv,_,_,_,_,z1,z2,z3,z4,aQ (aQ e5 _ _) _ _,e6,z6⟩
   ·obtain⟨kv,d,z1,z2,z3,zt,z4,z5,z6⟩:=qQ
    subst z1;have kv2:NkV K H2 (nkOf k) (.ref kb):=z5.nk _ hkv1;obtain⟨sa,rr,q1,q2,q3⟩:=nE kv2
    --one way
    have one:∀(wy:Int)(s':Sx)(sg:Int)(G:List (Sk×Int)),soD Φ f k.1 wy=some s'->(atI [V.int 1,V.int (-1)] wy=some (.int sg))->TN K H2 kv G->keysNd G->(addA G (s',k.2+sg) n).length<=5000->
      ∀(R:Hp->Prop),(∀kv' H3,H3 c=some (.frz o (.dN kvs))->H3 fd=some (.dN kv')->H3 tp=some (.tup [.int 0,.int 1])->TN K H3 kv' (addA G (s',k.2+sg) n)->Kp H1 H3->Exc [c] H H3->R H3)->
      tCall (spAdd K) E2 (tCons (tVar 1) (tCons (tTup (tCons (tCall (spOf K cl Φ f) E1 (tCons (tSt K 0 (tVar 2)) (tCons (tC (.int 0)) (tCons (tVar 4) tNil)))) (tCons (tAdd (tSt K 1 (tVar 2)) (tOp (rIxT K) (tC (.ref sh)) (tVar 4))) tNil))) (tCons (tVar 3) tNil))) ([some (.ref c),some (.ref fd),some (.ref kb),some (.int n),some (.int wy)]:St) H2 (λ_ H3=>R H3):=by
     intro wy s' sg G hso hat hG ndG hlG R hR;refine⟨.ref fd,rfl,.ref kb,rfl,kb,_,0,.ref sa,rfl,rfl,q1,rfl,.int wy,rfl,?_⟩;dsimp only[tNil];refine pM (cl:=cl) q3 hso λv' H3 sm nk'=>?_;have q1':SqT K H3 kb [.ref sa,.int k.2]:=by
      rcases q1 with(h|⟨o,h⟩)|h
      ·exact .inl (.inl (sm _ _ h))
      ·exact .inl (.inr ⟨o,sm _ _ h⟩)
      ·exact .inr h
     refine⟨.ref kb,rfl,kb,_,1,.int k.2,rfl,rfl,q1',rfl,.int wy,rfl,sh,_,wy,.int sg,rfl,rfl,hsh _,hat,k.2,sg,rfl,rfl,?_⟩;refine⟨by show 2<=sizeLine;omega,λkp hkp=>⟨.int n,rfl,?_⟩⟩;dsimp only[tNil];have E3:Exc [] H2 H3:=(Exc.refl [] H2).same sm;have E4:Exc [] H2 (upd H3 kp (.tup [v',.int (k.2+sg)])):=E3.new hkp;have fz:H3 fd=some (.dN kv):=sm _ _ z3;have hfk:fd≠kp:=aB fz hkp;have fz':upd H3 kp (.tup [v',.int (k.2+sg)]) fd=some (.dN kv):=by rw[aA hfk];exact fz
     have hnew:NkV K (upd H3 kp (.tup [v',.int (k.2+sg)])) (nkOf (s',k.2+sg)) (.ref kp):=by
      rw[nkOf,NkV];refine⟨kp,_,rfl,.inl (.inl upd_same),?_⟩;simp only[NkVs];exact⟨_,_,rfl,((Exc.refl [] H3).new hkp).kp.nk _ nk',_,_,rfl,by rw[NkV],rfl⟩
     have l3:=aF G (s',k.2+sg) n;refine add_n fz' (hG.kp E4.kp) ndG hnew (by omega) λkv' hkv'=>hR kv' _ ?_ upd_same ?_ (hkv'.kp ?_) ?_ ?_
     ·rw[aA (zL hfc)];exact E4.ot c _ (by simp) z2
     ·rw[aA (by rintro rfl;rw[z3] at zt;cases zt)];exact E4.ot tp _ (by simp) zt
     ·exact((Exc.refl [fd] _).put fz' (.inl (by simp)) (λxs z=>by cases z) λob v z=>by cases z).kp
     ·exact z5.trans (E4.kp.trans ((Exc.refl [fd] _).put fz' (.inl (by simp)) (λxs z=>by cases z) λob v z=>by cases z).kp)
     ·exact(z6.trans (E4.mono λx hx=>by cases hx)).put fz' (.inr hfd) (λxs z=>by cases z) λob v z=>by cases z
    have hj:j=0\/j=1:=by
     have:=(List.getElem?_eq_some_iff.mp hx).1;simp only[yJ,y7] at this;omega
    rcases hj with rfl|rfl
    ·cases hx
     simp only[yT] at z4;exact one 0 s0 1 g f0 rfl z4 e5 (by omega) _ λkv' H3 y1 y2 y3 y4 y5 y6=>⟨kv',_,rfl,y1,y2,y3,by simpa using y4,y5,y6⟩
    ·cases hx
     simp only[yT,show¬((1:Nat)=0) by decide,yX] at z4;exact one 1 s1 (-1) _ f1 rfl z4 (aQ e5 _ _) (by omega) _ λkv' H3 y1 y2 y3 y4 y5 y6=>⟨kv',_,rfl,y1,y2,y3,by simpa using y4,y5,y6⟩
  ·intro σ H Q Q' h k
   exact⟨h.1,λp hp=>k _ _ (h.2 p hp)⟩
end L2.Snd
namespace L2
open PySem PySem.Spec PyProof.Rows
section
variable{prog:Program}{w:World}{K:Type}[DecidableEq K]{knd:HeapKind prog w K}{A:Around}{E:Value->Shared->Prop}{s:Shared}{env:Env}
theorem wS
  (h:wpAny (model prog w) A (evalPairs (pairTrees [some k] [v] env pos)) (λvs s₁=>∃b y kk,vs=[(.ref b,y)]/\knd.room A/\knd.is s₁.heap kk b/\s₁.heap.DictOfH knd s.heap.objs.size []/\
   ∀h',h'.DictOfH knd s.heap.objs.size [(kk,b,y)]->Heap.SameBut s.heap.objs.size s₁.heap h'->Q (.ref s.heap.objs.size) {s₁ with heap:=h',toks:=s₁.toks+knd.draws kk}) E
   {s with heap:=s.heap.push {cls:=.type "dict",data:=.dict #[]}}):wpAny (model prog w) A (eval (.Dict [some k] [v] pos) env) Q E s:=by
 have hn:=pairTrees_length [some k] [v] env pos rfl rfl;have hn':(pairTrees [some k] [v] env pos).length=1:=hn;rw[arm_eval_Dict,zip_pairTrees [some k] [v] env pos rfl rfl,dictDisplay_pairs _ (by intro z;rw[z] at hn';cases hn') (by rw[hn'];decide)];refine gV (wpAny_standAt (gV ?_));unfold subDict;refine gV (wpAny_alloc ?_);refine gV (wpAny_holding ?_);rw[yM (by rw[hn'];decide)];refine gV (z8 h (λvs s₁ h₁=>?_) λ_ _ e=>e);obtain⟨b,y,kk,rfl,hu,hk,hm,hQ⟩:=h₁;refine wpAny_holding ?_;refine gV ?_;rw[List.forIn_cons];refine gV (gV (wpAny_dictSet_heap hu hk hm (λh' hm' hs'=>yN ?_) (by show 0<=sizeLine;exact Nat.zero_le _)));dsimp only;rw[List.forIn_nil];exact yN (yN (yN (yN (hQ h' hm' hs'))))
end
noncomputable def tDisp1(K:PySem.W.Frag)(tk tv:TE):TE:=λσ H Q=>∀p,H p=none->tk σ (upd H p (.dN [])) λx H1=>tv σ H1 λy H2=>H2 p=some (.dN [])/\∃b kk,x=.ref b/\KeyN K H2 kk b/\Q (.ref p) (upd H2 p (.dN [(kk,b,y)]))
theorem wU(hu:X.A.units+20<cLine)(hk:PE X k tk)(hv:PE X v tv):PE X (.Dict [some k] [v] pos) (tDisp1 X.K tk tv):=by
 intro pins s σ H Q I q;have hn:=I.hok.fresh (yP s.heap.objs.size);have I1:=I.laid (a:=s.heap.objs.size) (o:=.dN []) (h':=s.heap.push {cls:=.type "dict",data:=.dict #[]}) (t':=s.toks) (λ_ _ q=>yO _ q) (yP _)
  ⟨Nat.zero_le _,beq_eq_false_iff_ne.mpr (zL (zP I.big)),[],.nil,_,#[],0,y9 _ rfl,⟨rfl,rfl,rfl⟩,rfl,rfl,z0⟩
 refine wS (knd:=nkKind X.prog X.w) ?_;refine pairTrees_cons_walk (thn (hk pins _ σ _ _ I1 (q _ hn)) λu s1 ⟨x,H1,I2,rx,q1⟩=>thn (hv pins s1 σ H1 _ I2 q1) λw2 s2 ⟨y,H2,I3,ry,q2⟩=>pairTrees_nil_walk ?_);obtain⟨e,b,kk,rfl,kb,q3⟩:=q2;cases rx;obtain⟨z,hd,xs,rel,dd⟩:=wM I3 (.inl e) (λx hx=>by cases hx);cases rel;refine⟨b,w2,kk,rfl,by show X.A.units+8<cLine;omega,lB I3 kb,dd,λh' dd' hs=>⟨.ref s.heap.objs.size,_,?_,rfl,q3⟩⟩;obtain⟨o,es,ep,hq,h2,h3,h4,_,h5⟩:=dd';exact dJ I3 (by rw[e];exact True.intro) hs ⟨o,hq⟩ ⟨by show 1<=sizeLine;rw[sizeLine_eq];decide,hd,_,.cons ⟨rfl,rfl,ry⟩ .nil,o,es,ep,hq,h2,h3,h4,h5⟩
end L2
namespace L2.Snd
open PySem PySem.Spec PyProof.Rows L2 Py
noncomputable def spUp(K:PySem.W.Frag)(Φ:Nat->List D->R D)(f:Nat):Sp:=λvs H Q _=>∃a s t,vs=[.ref a]/\NkV K H (nkS s) (.ref a)/\spsO (soD Φ f) s.1.length [((s,0),1)]=some t/\∀fd kvs H',H fd=none->H' fd=some (.dN kvs)->TN K H' kvs t->t.length<=5000->Exc [] H H'->Q (.ref fd) H'
noncomputable def tUpB(K:PySem.W.Frag)(Φ:Nat->List D->R D)(f:Nat)(E:St->XK):TS:=
 tSeq (tAsg (tDisp1 K (tTup (tCons (tVar 0) (tCons (tC (.int 0)) tNil))) (tC (.int 1))) (gName 1)) (tSeq (tFor (iTup K (tSt K 0 (tVar 0))) (gName 2) (tAsg (tCall (spOnce K Φ f) E (tCons (tVar 1) tNil)) (gName 1))) (tRet (tVar 1)))
theorem nG{K:PySem.W.Frag}:∀{l:List NK}{vs:List V},NkVs K H l vs->vs.length=l.length
 |[],vs,h=>by rw[NkVs] at h;subst h;rfl
 |k::ks,vs,h=>by
  rw[NkVs] at h;obtain⟨v,r,rfl,_,h2⟩:=h;rw[yJ,yJ,nG h2]
theorem up_body{K:PySem.W.Frag}(h:spUp K Φ f vs H Q E'):
  tUpB K Φ f E {nx:=λ_ H'=>Q .non H',rt:=Q} (start ["sheet","counts","crossing"] vs) H:=by
 obtain⟨a,s,t,rfl,hn,hsp,q⟩:=h;have hs:(5000:Nat)<sizeLine:=by rw[sizeLine_eq];decide
 intro p hp;refine⟨.ref a,rfl,?_⟩;dsimp only[tNil,tC];refine⟨by show 2<=sizeLine;omega,λkb hkb=>⟨?_,kb,nkOf (s,0),rfl,?_,?_⟩⟩
 ·rw[aA (aB (by rw[upd_same]:upd H p (.dN []) p=_) hkb),upd_same]
 all_goals
  have X1:Exc [] H (upd (upd H p (.dN [])) kb (.tup [.ref a,.int 0])):=((Exc.refl [] H).new hp).new hkb;have nk1:NkV K (upd (upd H p (.dN [])) kb (.tup [.ref a,.int 0])) (nkOf (s,0)) (.ref kb):=by
   rw[nkOf,NkV];refine⟨kb,_,rfl,.inl (.inl upd_same),?_⟩;simp only[NkVs];exact⟨_,_,rfl,X1.kp.nk _ hn,_,_,rfl,by rw[NkV],rfl⟩
 ·exact⟨nk1,gG _⟩
 ·dsimp only[gName,tSeq]
  show tFor _ _ _ _ ([some (.ref a),some (.ref p),none]:St) _;have pkb:p≠kb:=aB (by rw[upd_same]:upd H p (.dN []) p=_) hkb;have ep:upd (upd H p (.dN [])) kb (.tup [.ref a,.int 0]) p=some (.dN []):=by rw[aA pkb,upd_same]
  generalize hH1:upd (upd H p (.dN [])) kb (.tup [.ref a,.int 0])=H1 at X1 nk1 ep;have X2:Exc [] H (upd H1 p (.dN [(nkOf (s,0),kb,.int 1)])):=X1.put ep (.inr hp) (λxs z=>by cases z) λob v z=>by cases z
  have kp12:Kp H1 (upd H1 p (.dN [(nkOf (s,0),kb,.int 1)])):=((Exc.refl [p] H1).put ep (.inl (by simp)) (λxs z=>by cases z) λob v z=>by cases z).kp;have hn2:=X2.kp.nk _ hn;rw[nkS,NkV] at hn2;obtain⟨a',ws,e,sq,hl⟩:=hn2;cases e;simp only[NkVs] at hl;obtain⟨rw_,r',rfl,hrows,v2,r2,rfl,h2,rfl⟩:=hl;rw[NkV] at hrows;obtain⟨ra,rs,rfl,sqr,hrs⟩:=hrows;have lrs:rs.length=s.1.length:=by rw[nG hrs,yI]
  refine lC (K:=K) ⟨.ref a,rfl,a,_,0,.ref ra,rfl,rfl,sq,rfl,ra,rs,rfl,sqr,λi σ H'=>∃fd kvs g c,σ=[some (.ref a),some (.ref fd),c]/\H fd=none/\H' fd=some (.dN kvs)/\TN K H' kvs g/\g.length<=5000/\spsO (soD Φ f) (s.1.length-i) g=some t/\Kp (upd H1 p (.dN [(nkOf (s,0),kb,.int 1)])) H'/\Exc [] H H',?_,λi σ H' qQ=>by obtain⟨_,_,_,_,_,_,_,_,_,_,z,_⟩:=qQ;exact z.sqT sqr,λσ H' qQ=>?_,λi σ H' x qQ hx=>?_⟩ ?_
  ·exact⟨p,_,[((s,0),1)],_,rfl,hp,upd_same,⟨.cons ⟨rfl,rfl⟩ .nil,λx hx=>by rw[List.mem_singleton.mp hx];exact kp12.nk _ nk1⟩,by simp,by rw[Nat.sub_zero];exact hsp,Kp.refl _,X2⟩
  ·obtain⟨fd,kvs,g,c,e1,e2,e3,e4,e5,e6,_,e7⟩:=qQ
   rw[lrs,Nat.sub_self] at e6;cases e6;subst e1;exact⟨.ref fd,rfl,q fd kvs H' e2 e3 e4 e5 e7⟩
  ·obtain⟨fd,kvs,g,c,e1,e2,e3,e4,e5,e6,e6',e7⟩:=qQ
   subst e1;have hi:i<s.1.length:=by rw[←lrs];exact(List.getElem?_eq_some_iff.mp hx).1
   rw[show s.1.length-i=(s.1.length-(i+1))+1 by omega,spsO] at e6
   cases es:spO (soD Φ f) g [] with
   |none=>rw[es] at e6;cases e6
   |some g'=>
    rw[es] at e6;change (if g'.length<=5000 then spsO (soD Φ f) (s.1.length-(i+1)) g' else none)=some t at e6;by_cases hl:g'.length<=5000
    ·rw[yM hl] at e6
     refine⟨.ref fd,rfl,?_⟩;dsimp only[tNil];refine⟨fd,kvs,g,g',rfl,.inl e3,e4,es,hl,λfd2 kv2 H2 y1 y2 y3 y4 y5=>?_⟩;refine⟨fd2,kv2,g',_,rfl,e7.free (by simp) y1,y2,y3,hl,e6,e6'.trans y5.kp,e7.comp y5 λx hx=>.inr (by rw[List.mem_singleton.mp hx];exact e2)⟩
    ·rw[yK hl] at e6;cases e6
  ·intro σ H Q Q' h k
   obtain⟨v,h1,p,xs,i,w,h2,h3,h4,h5,h6⟩:=h;exact⟨v,h1,p,xs,i,w,h2,h3,h4,h5,k _ _ h6⟩
section
variable{X:Cx}{cl:Nat->Addr}{XE:Nat->St->Hp->Prop}{Φ:Nat->List D->R D}{G:List D}{n:Nat}
noncomputable def tPow(K:PySem.W.Frag)(Φ:Nat->List D->R D)(f j i:Nat)(E1 E2 E3:St->XK):TS:=tAsg (tCall spSummed E1 (tCons (tCall (spBy K) E2 (tCons (tCall (spUp K Φ f) E3 (tCons (tVar j) tNil)) tNil)) tNil)) (gName i)
theorem rL{K:PySem.W.Frag}(h:H p=some (.dK (kvI t))):Own K cl F H (tabD t) p:=by
 refine⟨kvI t,h,by simp[kvI,Function.comp_def],?_⟩;clear h
 induction t with
 |nil=>exact Reps.nil
 |cons x t ih=>exact Reps.cons (by simp[Rep]) ih
theorem oks_pow{st:Stmt}(h:PS X st (tPow X.K Φ f j i E1 E2 E3)):OkS X cl XE Φ G n (.pow i j f) st:=by
 refine⟨_,h,λF₀ H₀ F σ δ H D fit post=>?_⟩;simp only[xec] at post
 cases e:(okO (rdV δ j)).bind (powD Φ f) with
 |none=>rw[e] at post;exact post.elim
 |some r=>
  rw[e] at post
  cases ej:rdV δ j with
  |exc c=>rw[ej] at e;cases e
  |bad=>rw[ej] at e;cases e
  |ok d=>
   rw[ej] at e;change powD Φ f d=some r at e;have hδ:δ[j]?=some (some (false,d)):=by
    unfold rdV at ej;split at ej
    ·rename_i d' q;cases ej;exact q
    ·cases ej
   obtain⟨v,hv,rv⟩:=fit.sees.sh j d hδ;unfold powD at e
   cases es:asSheet d with
   |none=>rw[es] at e;cases e
   |some s=>
    rw[es,aAG] at e;have ed:=d8 es;subst ed;change (spsO (soD Φ f) s.1.length [((s,0),1)]).bind _=some r at e
    cases et:spsO (soD Φ f) s.1.length [((s,0),1)] with
    |none=>rw[et] at e;cases e
    |some t=>
     rw[et,aAG] at e
     cases ek:(byR t).map (·.1) with
     |nil=>rw[ek] at e;cases e
     |cons x q=>
      rw[ek] at e;dsimp only at e;by_cases hc:q.length<=900/\-1<=maxI x q/\maxI x q<=5000
      ·rw[yM hc] at e
       cases eo:sumO (atB (byR t)) (maxI x q+1).toNat [] with
       |none=>rw[eo] at e;cases e
       |some u=>
        rw[eo] at e;cases e;have nk:NkV X.K H (nkS s) v:=sheet_rep.mpr rv;obtain⟨a,rfl⟩:∃a,v=.ref a:=by
         have:=nk;rw[nkS,NkV] at this;obtain⟨a,_,z,_⟩:=this;exact⟨a,z⟩
        have mb:maxB (byR t)=maxI x q:=by unfold maxB;rw[ek]
        refine⟨.ref a,hv,?_⟩;dsimp only[tNil];refine⟨a,s,t,rfl,nk,et,λfd kvs H1 h1 h2 h3 h4 h5=>⟨fd,kvs,t,rfl,.inl h2,h3,h4,λbr as H2 y1 y2 y3 y4=>?_⟩⟩;refine⟨br,byR t,as,u,rfl,y3.br,y3.nb,(λz=>by rw[z] at ek;cases ek),by rw[mb];exact hc.2.2,by rw[mb];exact hc.2.1,by rw[mb];exact eo,λp H3 z1 z2 z3=>?_⟩;have X2:Exc [] H H2:=h5.comp y4 λx hx=>.inr (by rw[List.mem_singleton.mp hx];exact h1);have nb:H br=none:=h5.free (by simp) y1;have nas:∀a∈as,H a=none:=λa ha=>h5.free (by simp) (y2 a ha);have X3:Exc [] H H3:=X2.comp z3 λx hx=>by
         rcases List.mem_cons.mp hx with rfl|hx
         ·exact .inr nb
         ·exact .inr (nas x hx)
        have hp:H p=none:=X2.free (by simp) z1;have u3:Up F H F H3:=⟨λa o e=>X3.ot a o (by simp) e,λ_ z=>z,λ_ z=>.inl z⟩
        have fo:=fit.own i u3 hp (fit.sees.trk.fresh hp) (rL (cl:=cl) (K:=X.K) z2);by_cases hi:i<δ.length
        ·obtain⟨F',_,f'⟩:=fo.fzD i (by rw[zD hi])
         rw[List.set_set] at f';exact post F' _ H3 f'
        ·have hl:=fit.sees.len
         have e1:σ.set i (some (.ref p))=σ:=List.set_eq_of_length_le (by omega);have e2:∀y:Slot,δ.set i y=δ:=λy=>List.set_eq_of_length_le (by omega);show D.nx (σ.set i (some (.ref p))) H3;rw[e1];dsimp only at post;rw[e2] at post;exact post F _ H3 (fit.to u3)
      ·rw[yK hc] at e;cases e
end
end L2.Snd
namespace Py
theorem nH(s:Int):∀(row:List Int)(q:Int)(t:List (Int×Int)),t.length<=(putC s row q t).length
 |[],_,t=>yP _
 |x::xs,q,t=>zB (aF t q (x*s)).2 (nH s xs (q-4) _)
theorem b9:∀{xs:List D}{r:List Int},intsOf xs=some r->xs=r.map .int
 |[],r,h=>by simp[intsOf] at h;subst h;rfl
 |x::xs,r,h=>by
  cases x with
  |int i=>
   rw[intsOf] at h
   cases e:intsOf xs with
   |none=>rw[e] at h;cases h
   |some q=>rw[e] at h;cases h;rw[b9 e];rfl
  |_=>simp[intsOf] at h
end Py
namespace L2.Snd
open PySem PySem.Spec PyProof.Rows L2 Py
noncomputable def rLenS(K:PySem.W.Frag):List V->Hp->VK->Prop:=λxs H Q=>∃p ys,xs=[.ref p]/\(SqL K H p ys\/SqT K H p ys)/\Q (.int ys.length) H
noncomputable abbrev tMu(a b:TE):TE:=tOp (rI CMul λi j=>.int (i*j)) a b
noncomputable abbrev tAd(a b:TE):TE:=tOp (rI0 λi j=>.int (i+j)) a b
noncomputable abbrev tSu(a b:TE):TE:=tOp (rI0 λi j=>.int (i-j)) a b
noncomputable abbrev tMo(a b:TE):TE:=tOp (rI (λ_ j=>0<j) λi j=>.int (i%j)) a b
noncomputable def tLA(K:PySem.W.Frag)(cl:Nat->Addr)(Φ:Nat->List D->R D)(f:Nat)(E:St->XK):TS:=
 tSeq (tAsg (tCall (spOf K cl Φ f) E (tCons (tVar 2) tNil)) (gName 3)) (tFor (iRng1 (tCons (tCB (rLenS K) (tCons (tVar 3) tNil)) tNil)) (gName 4)
  (tSeq (tAsg (tSu (tAd (tVar 1) (tMu (tC (.int 2)) (tVar 2))) (tMu (tC (.int 4)) (tVar 4))) (gName 5))
   (tAsg (tAd (tDM (rGet2 K) (tVar 0) (tCons (tVar 5) (tCons (tC (.int 0)) tNil))) (tMu (tOp (rIxL K) (tVar 3) (tVar 4)) (tSu (tC (.int 1)) (tMu (tC (.int 2)) (tMo (tVar 2) (tC (.int 2))))))) (gSub (tVar 0) (tVar 5) (rSetX K)))))
noncomputable def spLA(Φ:Nat->List D->R D)(f:Nat):Sp:=λvs H Q _=>∃d p r t t',vs=[.ref d,.int p,.int r]/\H d=some (.dK (kvI t))/\laddT Φ f t p r=some t'/\∀H',H' d=some (.dK (kvI t'))->Exc [d] H H'->Q .non H'
theorem eZ{K:PySem.W.Frag}:∀{r:List Int}{vs:List V},Reps K cl F H (r.map D.int) vs->vs=r.map V.int
 |[],vs,h=>h.nil_inv
 |i::r,vs,h=>by
  obtain⟨v,q,rfl,h1,h2⟩:=h.cons_inv;rw[Rep] at h1;rw[h1,eZ h2];rfl
theorem at_nat{i:Nat}{v:V}(h:xs[i]?=some v):atI xs (i:Int)=some v:=by
 have hi:=(List.getElem?_eq_some_iff.mp h).1;unfold atI ixN;rw[yM (by omega),yM (by omega)];simpa using h
theorem la_body{K:PySem.W.Frag}(h:spLA Φ f vs H Q E'):
  tLA K cl Φ f E {nx:=λ_ H'=>Q .non H',rt:=Q} (start ["found","power","rings","row","e","at"] vs) H:=by
 obtain⟨d,p,r,t,t',rfl,hd,hl,q⟩:=h;have hs:(5000:Nat)<sizeLine:=by rw[sizeLine_eq];decide
 unfold laddT at hl
 cases eΦ:Φ f [.int r] with
 |exc c=>rw[eΦ] at hl;cases hl
 |bad=>rw[eΦ] at hl;cases hl
 |ok dd=>
  rw[eΦ] at hl
  cases dd with
  |lst ds=>
   dsimp only at hl
   cases ei:intsOf ds with
   |none=>rw[ei] at hl;cases hl
   |some row=>
    rw[ei,aAG] at hl;by_cases hc:(t.map (·.1)).Nodup/\row.length<=5000/\(putC (1-2*(r%2)) row (p+2*r) t).length<=5000
    ·rw[yM hc] at hl
     have nd:keysNd t:=hc.1;replace hc:=hc.2;cases hl;have eds:=b9 ei;subst eds;refine⟨.int r,rfl,?_⟩;dsimp only[tNil];refine⟨λ_=>False,[.int r],λ_ z=>z.elim,.cons (by simp[Rep]) .nil,?_⟩;rw[eΦ];refine λF' v H1 u rv=>?_;rw[Rep] at rv;obtain⟨a,ws,rfl,_,ha,rws⟩:=rv;have ew:=eZ rws;subst ew;dsimp only[gName];show tFor _ _ _ _ ([some (.ref d),some (.int p),some (.int r),some (.ref a),none,none]:St) H1;have d1:H1 d=some (.dK (kvI t)):=u.same _ _ hd;have X1:Exc [d] H H1:=(Exc.refl [d] H).same u.same;have had:a≠d:=by rintro rfl;rw[ha] at d1;cases d1
     refine⟨.ref a,rfl,?_⟩;dsimp only[tNil];refine⟨a,row.map V.int,rfl,.inl (.inl (.inl ha)),(row.map V.int).length,rfl,by omega,by rw[yI];omega,?_⟩;rw[yI,aAH];refine⟨λi m σ H'=>m+i=row.length/\∃T x y,σ=[some (.ref d),some (.int p),some (.int r),some (.ref a),x,y]/\H' d=some (.dK (kvI T))/\H' a=some (.lst (row.map V.int))/\keysNd T/\putC (1-2*(r%2)) (row.drop i) (p+2*r-4*i) T=putC (1-2*(r%2)) row (p+2*r) t/\Exc [d] H H',
      ⟨row.length,by omega,t,_,_,rfl,d1,ha,nd,by simp,X1⟩,λi m σ H' qQ=>?_⟩
     obtain⟨hm,T,x,y,e1,e2,e3,e4,e5,e6⟩:=qQ;by_cases hi:i<row.length
     ·refine .inr ⟨hi,λσ' H'=>∃T x y,σ'=[some (.ref d),some (.int p),some (.int r),some (.ref a),x,y]/\H' d=some (.dK (kvI T))/\H' a=some (.lst (row.map V.int))/\keysNd T/\putC (1-2*(r%2)) (row.drop (i+1)) (p+2*r-4*(i+1:Nat)) T=putC (1-2*(r%2)) row (p+2*r) t/\Exc [d] H H',λσ' H' z=>⟨m-1,by omega,by omega,z⟩,λz H'' qQ=>?_⟩
      obtain⟨eH,ez⟩:=qQ;subst eH ez e1;rw[z9 hi,putC] at e5;have lT:=aF T (p+2*r-4*i) (row[i]*(1-2*(r%2)));have lP:=nH (1-2*(r%2)) (row.drop (i+1)) (p+2*r-4*i-4) (addA T (p+2*r-4*i) (row[i]*(1-2*(r%2))));rw[e5] at lP;refine⟨.int p,rfl,.int r,rfl,2,r,rfl,rfl,.inl ⟨by decide,by decide⟩,p,2*r,rfl,rfl,.int (0+(i:Nat)),rfl,4,0+(i:Nat),rfl,rfl,.inl ⟨by decide,by decide⟩,p+2*r,4*(0+(i:Nat)),rfl,rfl,?_⟩;dsimp only[gName];show tAsg _ _ _ ([some (.ref d),some (.int p),some (.int r),some (.ref a),some (.int (0+(i:Nat))),some (.int (p+2*r-4*(0+(i:Nat))))]:St) H'';rw[show p+2*r-4*(0+((i:Nat):Int))=p+2*r-4*i by omega];generalize hA:p+2*r-4*((i:Nat):Int)=at_ at*;have hrow:atI (row.map V.int) (0+((i:Nat):Int))=some (.int row[i]):=by
       rw[Int.zero_add];exact at_nat (by rw[zE,yS hi];rfl)
      have hm2:0<=r%2/\r%2<2:=⟨Int.emod_nonneg _ (by decide),Int.emod_lt_of_pos _ (by decide)⟩
      refine⟨.ref d,rfl,⟨d,_,_,rfl,.k _,.inl e2⟩,.int at_,rfl,d,.int at_,.int 0,(look T at_).map V.int,rfl,rfl,.inl (by rw[←rE];exact DGet.k (k:=Sum.inl at_) e2),.ref a,rfl,.int (0+(i:Nat)),rfl,a,_,_,.int row[i],rfl,rfl,.inl (.inl e3),hrow,.int r,rfl,r,2,rfl,rfl,(by show(0:Int)<2;decide),2,r%2,rfl,rfl,.inl ⟨by decide,by decide⟩,1,2*(r%2),rfl,rfl,row[i],1-2*(r%2),rfl,rfl,.inr ⟨by omega,by omega⟩,(look T at_).getD 0,row[i]*(1-2*(r%2)),?_,rfl,.ref d,rfl,.int at_,rfl,d,_,rfl,.inl (DPut.k (k:=Sum.inl at_) e2 (by simp[kvI];omega)),?_⟩
      ·cases look T at_<;>rfl
      ·rw[rF e4]
       refine⟨addA T at_ (row[i]*(1-2*(r%2))),_,_,rfl,upd_same,by rw[aA had];exact e3,aQ e4 _ _,?_,e6.put e2 (.inl (by simp)) (λxs z=>by cases z) λob v z=>by cases z⟩;rw[show p+2*r-4*((i+1:Nat):Int)=at_-4 by omega];exact e5
     ·have ei':i=row.length:=by omega
      subst ei';rw[List.drop_length] at e5;refine .inl ⟨yP _,q H' ?_ e6⟩;rw[e2];exact congrArg (λz=>some (HO.dK (kvI z))) e5
    ·rw[yK hc] at hl;cases hl
  |_=>cases hl
end L2.Snd
namespace Py
theorem nI(x:Int):∀l:List Int,(ins x l).Perm (x::l)
 |[]=>.refl _
 |y::r=>by
  unfold ins;split
  ·exact .refl _
  ·exact((nI x r).cons y).trans (List.Perm.swap x y r)
theorem cZ:∀l:List Int,(sortI l).Perm l
 |[]=>.refl _
 |x::r=>(nI x (sortI r)).trans ((cZ r).cons x)
theorem nJ(x:Int):∀l:List Int,l.Pairwise (· <=·)->(ins x l).Pairwise (· <=·)
 |[],_=>by simp[ins]
 |y::r,h=>by
  rw[List.pairwise_cons] at h;unfold ins;split
  ·rename_i hx
   rw[List.pairwise_cons,List.pairwise_cons];refine⟨λz hz=>?_,h⟩;rcases List.mem_cons.mp hz with rfl|hz
   ·omega
   ·have:=h.1 z hz;omega
  ·rename_i hx
   rw[List.pairwise_cons];refine⟨λz hz=>?_,nJ x r h.2⟩;rcases(gE x z r).mp hz with rfl|hz
   ·omega
   ·exact h.1 z hz
theorem iC:∀l:List Int,(sortI l).Pairwise (· <=·)
 |[]=>.nil
 |x::r=>nJ x _ (iC r)
theorem tQ(p:a.Perm b)(h:a.Pairwise (· <=·)):a=sortI b:=List.Perm.eq_of_pairwise (le:=λx y:Int=>x<=y) (λx y _ _ h1 h2=>by omega) h (iC b) (p.trans (cZ b).symm)
end Py
namespace L2
open PySem PySem.Spec PyProof.Rows
section
variable{prog:Program}{w:World}{A:Around}{E:Value->Shared->Prop}{s:Shared}
noncomputable def SortOk(vs:List Value)(ns:List Int):Prop:=∀{prog:Program}{w:World}{A:Around}{E:Value->Shared->Prop}{s:Shared}{a:Addr}{n:Nat}{P:Fin->Shared->Prop},s.heap.get? a=some (seqObj "list" vs.toArray n)->
 (∀(out:Array Value)(ns':List Int),IntsAre out.toList ns'->ns'.Perm ns->ns'.Pairwise (· <=·)->P (.done (.ret .none)) {s with heap:=sortedHeap s.heap a vs out})->wpAny (model prog w) A (Builtin.«list.sort» ⟨[.ref a],[]⟩) P E s
theorem pN(hI:IntsAre vs ns)(h:vs.length<64):SortOk vs ns:=λho q=>list_sort_tree ho hI h q
theorem nK(K:PySem.W.KdlSrc prog w T r d n P OK)(hh:A.handled=none)(hok:OK s.heap)(hn:n<=sizeLine)
  (h:∀(vs:List Value),vs.length=n->(∀(j:Nat) v,vs[j]?=some v->P j v)->∃ns,SortOk vs ns/\
   ∀(h1 h':Heap)(tk:Nat)(out:Array Value)(e:Nat)(ns':List Int),IntsAre out.toList ns'->ns'.Perm ns->ns'.Pairwise (· <=·)->(∀b o,s.heap.get? b=some o->h1.get? b=some o)->(∀b o,h1.get? b=some o->h'.get? b=some o)->h'.get? h1.objs.size=some (seqObj "list" out e)->Q (.ref h1.objs.size) {s with heap:=h',toks:=tk}):
  wpAny (model prog w) A (call (.builtin "sorted") [.ref r]) Q E s:=by
 refine Calls.call_function_entry kind_sorted plain_sorted entry_sorted (args_sorted1 _) ?_;unfold Builtin.«sorted»;refine gV (m:=checkCount "sorted" 1 1 _) (yN ?_);refine gV (PySem.W.kdu_collect (A:=A.in1) K hh hok hn λh1 tk acc hk hacc=>?_);have hl:acc.toList.length=n:=by rw[Array.length_toList];exact hacc.1
 obtain⟨ns,so,q⟩:=h acc.toList hl λj v e=>hacc.2 j v (by rw[←aAM];exact e);refine gV (wpAny_newList ?_ (by rw[hl];exact hn));have ho:(h1.push (seqObj "list" acc.toList.toArray 0)).get? h1.objs.size=some (seqObj "list" acc.toList.toArray 0):=y9 _ rfl;show wpAny _ _ _ _ _ {s with heap:=h1.push (seqObj "list" acc.toList.toArray 0),toks:=tk};refine gV (wpAny_holding (zZ slot_list_sort ⟨_,ho,rfl⟩ entry_list_sort (so ho λout ns' a1 a2 a3=>⟨_,rfl,?_⟩) (args_list_sort _)));refine yN ⟨_,rfl,?_⟩;obtain⟨e,he⟩:=sortedHeap_at (out:=out) ho;refine q h1 _ tk out e ns' a1 a2 a3 hk (λb o hb1=>?_) he;have lb:=yV hb1;rw[sortedHeap_old (zP lb) (by rw[size_push'];exact Nat.lt_succ_of_lt lb)];exact yO _ hb1
end
end L2
namespace L2.Snd
open PySem PySem.Spec PyProof.Rows L2 Py
section
variable{X:Cx}{cl:Nat->Addr}{XE:Nat->St->Hp->Prop}{YE:Nat->Hp->Prop}{Φ:Nat->List D->R D}{G:List D}{m fr:Bool}{n:Nat}
theorem j7:∀{ns:List Int}{us:List Value},Vals (ns.map V.int) us->IntsAre us ns
 |[],us,h=>by cases h;exact .nil
 |i::ns,us,h=>by
  cases h with
  |cons r t=>
   obtain⟨k,rfl⟩:=r;exact .cons i k (j7 t)
theorem vals_ints:∀{us:List Value}{ns:List Int},IntsAre us ns->Vals (ns.map V.int) us
 |_,_,.nil=>.nil
 |_,_,.cons n t h=>.cons ⟨t,rfl⟩ (vals_ints h)
theorem nM(long:∀{vs:List Value}{ns:List Int},IntsAre vs ns->longK ns=true->SortOk vs ns)(hc:X.calm=true):CallR X (.builtin "sorted") (λxs H Q=>∃d kvs ks,xs=[.ref d]/\Rd H d (.dK kvs)/\kvs.map (·.1)=ks.map Sum.inl/\(ks.length<64\/longK ks=true)/\
  ∀p,H p=none->Q (.ref p) (upd H p (.lst ((sortI ks).map V.int)))):=by
 intro pins s σ H xs us Q I r h;obtain⟨d,kvs,ks,rfl,hr,hk,hl,q⟩:=h
 cases r with
 |cons r rr=>
 cases rr;cases r;obtain⟨z,y,ws,rel,dd⟩:=dI I.hok hr;obtain⟨ep,hat⟩:=dd.dictAt;have hlen:kvs.length=ws.length:=rel.length;refine nK (PySem.W.kdl_dict (knd:=mixKind X.prog X.w) (kvs:=ws) (ep:=ep) y) (I.ok.hd hc) hat (by omega) λus hus hP=>?_;have hv:Vals (kvs.map λx=>kV x.1) us:=by
  refine eX (P:=X.prog) (w:=X.w) (vs:=ws) (by rw[hus,hlen]) λj u e=>?_;obtain⟨k,x,e1,e2⟩:=hP j u e;have hj:j<kvs.length:=by have:=(List.getElem?_eq_some_iff.mp e1).1;omega
  obtain⟨w,e3,_⟩:=KV.at rel (yS hj);rw[e1] at e3;cases e3;exact⟨_,_,yS hj,e2⟩
 have ek:(kvs.map λx=>kV x.1)=ks.map V.int:=by
  have:(kvs.map (·.1)).map kV=(ks.map Sum.inl).map kV:=by rw[hk]
  rw[zY,zY] at this;exact this
 rw[ek] at hv;have hI:=j7 hv;have hl2:us.length=ks.length:=by
  have:=hv.length;simpa using this.symm
 refine⟨ks,?_,λh1 h' tk out e ns' a1 a2 a3 k1 k2 he=>?_⟩
 ·rcases hl with hl|hl
  ·exact pN hI (by omega)
  ·exact long hI hl
 ·have es:=tQ a2 a3
  subst es;have I1:Inv X pins σ H {s with heap:=h1,toks:=tk}:=I.kept k1;have hn:H h1.objs.size=none:=I1.hok.fresh (yP _);refine⟨.ref h1.objs.size,_,I1.laid (a:=h1.objs.size) (o:=.lst ((sortI ks).map V.int)) (t':=tk) k2 (yP _) ⟨?_,out.toList,e,?_,by simpa using he⟩,rfl,q _ hn⟩
  ·rw[yI,(cZ ks).length_eq]
   omega
  ·exact vals_ints a1
end
section
variable{X:Cx}{cl:Nat->Addr}{XE:Nat->St->Hp->Prop}{YE:Nat->Hp->Prop}{Φ:Nat->List D->R D}{G:List D}{m fr:Bool}{n:Nat}
theorem own_tab{K:PySem.W.Frag}(h:Own K cl F H (.dic ks vs) a)(e:tabOf ks vs=some t):H a=some (.dK (kvI t)):=by
 obtain⟨kvs,h1,h2,h3⟩:=h;unfold tabOf at e
 cases ei:intsOf vs with
 |none=>rw[ei] at e;cases e
 |some xs=>
  rw[ei,aAG] at e;by_cases hl:ks.length=xs.length
  ·rw[yM hl] at e
   cases e;rw[b9 ei] at h3;have h4:=eZ h3;rw[h1]
   congr 2
   clear h1 h3 ei
   induction ks generalizing xs kvs with
   |nil=>
    cases kvs with
    |nil=>rfl
    |cons _ _=>simp at h2
   |cons k ks ih=>
    cases kvs with
    |nil=>simp at h2
    |cons p kvs=>
     cases xs with
     |nil=>simp at hl
     |cons x xs=>
      simp only[yQ,List.cons.injEq] at h2 h4;rw[ih (xs:=xs) (kvs:=kvs) h2.2 (by simpa using hl) h4.2];show p::kvI (ks.zip xs)=((Sum.inl k:Key),V.int x)::kvI (ks.zip xs);rw[←h2.1,←h4.1]
  ·rw[yK hl] at e;cases e
noncomputable def tLadd(i f:Nat)(Φ:Nat->List D->R D)(tp tr:TE)(E:St->XK):TS:=tDrop (tCall (spLA Φ f) E (tCons (tVar i) (tCons tp (tCons tr tNil))))
theorem wV{st:Stmt}(hp:OkE X cl XE Φ G false ep p)(hr:OkE X cl XE Φ G false er r)(h:∀tp tr,PE X p tp->PE X r tr->PS X st (tLadd i f Φ tp tr E)):OkS X cl XE Φ G n (.ladd i f ep er) st:=by
 obtain⟨tp,pp,ip⟩:=hp;obtain⟨tr,pr,ir⟩:=hr;refine⟨_,h tp tr pp pr,λF₀ H₀ F σ δ H D f0 post=>?_⟩;simp only[xec] at post;obtain⟨F1,s1,f1⟩:=f0.frz (leaks false ep++leaks false er);generalize hδ:Py.frz (leaks false ep++leaks false er) δ=δ1 at post f1;unfold laddD at post;split at post
 ·rename_i ks vs pi ri e0 e1 e2
  cases et:(tabOf ks vs).bind λt=>laddT Φ f t pi ri with
  |none=>rw[et] at post;exact post.elim
  |some t'=>
   rw[et] at post
   cases eb:tabOf ks vs with
   |none=>rw[eb] at et;cases et
   |some t=>
    rw[eb,aAG] at et;obtain⟨a,q1,q2,q3⟩:=f1.sees.ow i _ e0;refine⟨.ref a,q1,ip F1 σ δ1 H _ f1.sees ?_⟩;rw[e1];refine λF2 v H2 u2 g2=>?_;have hv:v=.int pi:=by have:=g2.got;exact Got.int this
    subst hv;have f2:=f1.to u2;refine ir F2 σ δ1 H2 _ f2.sees ?_;rw[e2];refine λF3 v H3 u3 g3=>?_;have hv:v=.int ri:=by have:=g3.got;exact Got.int this
    subst hv;have f3:=f2.to u3;dsimp only[tNil];obtain⟨a',y1,y2,y3⟩:=f3.sees.ow i _ e0;rw[q1] at y1;have ea:a=a':=by simpa using y1
    subst ea;refine⟨a,pi,ri,t,t',rfl,own_tab y3 eb,et,λH4 z1 z2=>?_⟩;have fw:=f3.write i e0 q1 (d':=tabD t') (o:=.dK (kvI t')) (.inr ⟨_,rfl⟩) (rL (cl:=cl) (K:=X.K) upd_same);have up:Up F3 (L2.upd H3 a (.dK (kvI t'))) F3 H4:=by
     refine⟨λb o e=>?_,λ_ z=>z,λ_ z=>.inl z⟩;by_cases hb:b=a
     ·subst hb;rw[upd_same] at e;cases e;exact z1
     ·rw[aA hb] at e;exact z2.ot b o (by simpa using hb) e
    exact post F3 σ H4 (fw.to up)
 ·exact post.elim
theorem tR(t:Trk F H)(g:Paired (Got X.K cl F H) ds vs)(h:Post X.K cl YE m false F H Q (lift1 (op1 .sorted) ds)):
  ∃d kvs ks,vs=[.ref d]/\Rd H d (.dK kvs)/\kvs.map (·.1)=ks.map Sum.inl/\(ks.length<64\/longK ks=true)/\∀p,H p=none->Q (.ref p) (L2.upd H p (.lst ((sortI ks).map V.int))):=by
 match ds,g,h with
 |[],_,h=>exact(show False from h).elim
 |_::_::_,_,h=>exact(show False from h).elim
 |[d],g,h=>
  obtain⟨v,rfl,gv⟩:=Paired.one g;have h:Post X.K cl YE m false F H Q (op1 .sorted d):=h
  cases d with
  |dic ks ws=>
   have h:Post X.K cl YE m false F H Q (if ks.length<64\/longK ks=true then .ok (.lst ((sortI ks).map .int)) else .bad):=h;by_cases hc:ks.length<64\/longK ks=true
   ·rw[yM hc] at h
    obtain⟨a,kvs,rfl,h1,h2,_⟩:=gv.dic;refine⟨a,kvs,ks,rfl,.inl h1,h2,hc,λp hp=>?_⟩;have u:Up F H (addF F p) (L2.upd H p (.lst ((sortI ks).map V.int))):=(Up.alloc hp).freeze hp (by rw[upd_same];exact Option.some_ne_none _);refine h (addF F p) (.ref p) _ u (Res.gives (.of_rep ?_ rfl));simp only[Rep];refine⟨p,_,rfl,.inr rfl,upd_same,?_⟩;generalize L2.upd H p (HO.lst ((sortI ks).map V.int))=H';generalize sortI ks=l
    induction l with
    |nil=>exact Reps.nil
    |cons x l ih=>exact Reps.cons (by simp[Rep]) ih
   ·rw[yK hc] at h;exact(show False from h).elim
  |_=>exact(show False from h).elim
theorem boot_sorted:bootBuiltins "sorted"=some (.builtin "sorted"):=by first|exact PySem.boot_sorted|rfl|decide+kernel
theorem wW(long:∀{vs:List Value}{ns:List Int},IntsAre vs ns->longK ns=true->SortOk vs ns){ea:Ex}{a:Expr}{pos p:Pos}(hm:X.mg "sorted"=none)(ia:OkE X cl XE Φ G true ea a)(hc:X.calm=true:=by rfl)(hg:Gl X "sorted":=by rfl)(hs:starEach (a::[]) X.env=(false,eval a X.env)::starEach [] X.env:=by rfl):
  OkE X cl XE Φ G m (.op1 .sorted ea) (.Call (.Name "sorted" p) [a] [] pos):=
 dS (exs:=[ea]) (o:=lift1 (op1 .sorted)) ev1 (nM long hc) hg hm boot_sorted (by decide) (by decide) hs rfl (aU hs ia bG) λYE F H vs ds Q t g h=>tR t g h
end
noncomputable def tRgI(K:PySem.W.Frag):TS:=tFor (iRng1 (tCons (tC (.int 2)) tNil)) (gName 5) (tIfS (tB (tEqI (tOp (rIxL K) (tVar 4) (tVar 5)) (tOp (rIxL K) (tVar 3) (tC (.int 1))))) (tAsg (tOp (rIxL K) (tVar 3) (tC (.int 0))) (gSub (tVar 4) (tVar 5) rSetL)) tNext)
noncomputable def tRgW(K:PySem.W.Frag):TS:=tWhile (tB (tGt (tCB (rLenS K) (tCons (tVar 1) tNil)) (tC (.int 0)))) (tSeq (tAsg (tOp (rIxL K) (tVar 1) (tC (.int 0))) (gName 3)) (tSeq (tAsg (tSl (rSlL K) (tVar 1) (tPart (tC (.int 1))) tNoPart) (gName 1))
 (tSeq (tIfS (tB (tEqI (tOp (rIxL K) (tVar 3) (tC (.int 0))) (tOp (rIxL K) (tVar 3) (tC (.int 1))))) (tAsg (tAd (tVar 2) (tC (.int 1))) (gName 2)) tNext) (tFor (iList K (tVar 1)) (gName 4) (tRgI K)))))
noncomputable abbrev r2(p:Int×Int):List Int:=[p.1,p.2]
theorem rgI{K:PySem.W.Frag}{D:Ends}(h0:H a0=some (.lst [.int a,.int b]))(ho:H o=some (.lst [.int x,.int y]))(hne:o≠a0)
  (q:∀c,D.nx [x0,xL,g,some (.ref a0),some (.ref o),c] (L2.upd H o (.lst [.int (sb a b x),.int (sb a b y)]))):tRgI K D [x0,xL,g,some (.ref a0),some (.ref o),c5] H:=by
 refine⟨2,rfl,by decide,by decide,?_⟩;have main:∀(i m:Nat)(σ:St)(H':Hp),(m+i=2/\∃c u v,σ=[x0,xL,g,some (.ref a0),some (.ref o),c]/\H'=L2.upd H o (.lst [.int u,.int v])/\u=(if i=0 then x else sb a b x)/\v=(if i=2 then sb a b y else y))->
   ((Itr 0 (2:Int).toNat).stop i H'/\D.nx σ H')\/((Itr 0 (2:Int).toNat).go i H'/\∃N:St->Hp->Prop,(∀σ' H',N σ' H'->∃m',m'<m/\(m'+(i+1)=2/\∃c u v,σ'=[x0,xL,g,some (.ref a0),some (.ref o),c]/\H'=L2.upd H o (.lst [.int u,.int v])/\u=(if i+1=0 then x else sb a b x)/\v=(if i+1=2 then sb a b y else y)))/\∀z H'',(Itr 0 (2:Int).toNat).yld i H' z H''->gName 5 z σ H'' λσ2 H2=>tIfS (tB (tEqI (tOp (rIxL K) (tVar 4) (tVar 5)) (tOp (rIxL K) (tVar 3) (tC (.int 1))))) (tAsg (tOp (rIxL K) (tVar 3) (tC (.int 0))) (gSub (tVar 4) (tVar 5) rSetL)) tNext {D with nx:=N,ct:=N,bk:=D.nx} σ2 H2):=by
  rintro i m σ H' ⟨hm,c,u,v,e1,e2,e3,e4⟩;by_cases hi:i<2
  ·refine .inr ⟨hi,λσ' H'=>∃c u v,σ'=[x0,xL,g,some (.ref a0),some (.ref o),c]/\H'=L2.upd H o (.lst [.int u,.int v])/\u=(if i+1=0 then x else sb a b x)/\v=(if i+1=2 then sb a b y else y),λσ' H' z=>⟨m-1,by omega,by omega,z⟩,λz H'' qQ=>?_⟩
   obtain⟨eH,ez⟩:=qQ;subst eH ez e1 e2;have ho':L2.upd H o (.lst [.int u,.int v]) o=some (.lst [.int u,.int v]):=upd_same;have h0':L2.upd H o (.lst [.int u,.int v]) a0=some (.lst [.int a,.int b]):=by rw[aA (zL hne)];exact h0
   have hw:i=0\/i=1:=by omega
   rcases hw with rfl|rfl
   ·simp only[yT,show¬((0:Nat)=2) by decide,yX] at e3 e4
    subst e3 e4;refine⟨.ref o,rfl,.int (0+(0:Nat)),rfl,o,_,_,.int u,rfl,rfl,.inl (.inl ho'),rfl,.ref a0,rfl,a0,_,_,.int b,rfl,rfl,.inl (.inl h0'),rfl,u,b,rfl,rfl,_,rfl,?_⟩;dsimp only;by_cases hb:u=b
    ·rw[yM (show decide (u=b)=true from zT hb)]
     refine⟨.ref a0,rfl,a0,_,_,.int a,rfl,rfl,.inl (.inl h0'),rfl,.ref o,rfl,.int (0+(0:Nat)),rfl,o,_,_,0,rfl,rfl,ho',rfl,_,a,v,rfl,qG,?_,rfl⟩;simp[sb,hb]
    ·rw[yK (show¬decide (u=b)=true from by simpa using hb)]
     refine⟨_,u,v,rfl,rfl,?_,rfl⟩;simp[sb,hb]
   ·simp only[show¬((1:Nat)=0) by decide,show¬((1:Nat)=2) by decide,yX] at e3 e4
    subst e4;refine⟨.ref o,rfl,.int (0+(1:Nat)),rfl,o,_,_,.int v,rfl,rfl,.inl (.inl ho'),rfl,.ref a0,rfl,a0,_,_,.int b,rfl,rfl,.inl (.inl h0'),rfl,v,b,rfl,rfl,_,rfl,?_⟩;dsimp only;by_cases hb:v=b
    ·rw[yM (show decide (v=b)=true from zT hb)]
     refine⟨.ref a0,rfl,a0,_,_,.int a,rfl,rfl,.inl (.inl h0'),rfl,.ref o,rfl,.int (0+(1:Nat)),rfl,o,_,_,1,rfl,rfl,ho',rfl,_,u,a,rfl,qG,by simpa using e3,?_⟩;simp[sb,hb]
    ·rw[yK (show¬decide (v=b)=true from by simpa using hb)]
     refine⟨_,u,v,rfl,rfl,by simpa using e3,?_⟩;simp[sb,hb]
  ·have hi2:i=2:=by omega
   subst hi2;simp only[show¬((2:Nat)=0) by decide,yX,yT] at e3 e4;subst e1 e2 e3 e4;exact .inl ⟨yP _,q c⟩
 refine⟨_,⟨2,rfl,c5,x,y,rfl,?_,rfl,rfl⟩,main⟩;funext z;by_cases hz:z=o
 ·subst hz;rw[upd_same,ho]
 ·rw[aA hz]
noncomputable abbrev rw2(l:List (Int×Int)):List (List Int):=l.map r2
theorem rgL{K:PySem.W.Frag}{D:Ends}(h0:H a0=some (.lst [.int a,.int b]))(hn:Nest H L as (rw2 r))(hna:a0∉as)(ha0:a0≠L)
  (q:∀c d H',Nest H' L as (rw2 (r.map (sb2 a b)))->(∀x o,x∉as->H x=some o->H' x=some o)->(∀x,H' x=none->H x=none)->D.nx [x0,some (.ref L),g,some (.ref a0),c,d] H'):
  tFor (iList K (tVar 1)) (gName 4) (tRgI K) D [x0,some (.ref L),g,some (.ref a0),c4,c5] H:=by
 have len:as.length=r.length:=by have:=hn.len;simpa using this
 refine⟨.ref L,rfl,L,rfl,⟨_,.inl (.inl hn.top)⟩,λi m σ H'=>m+i=as.length/\∃c d,σ=[x0,some (.ref L),g,some (.ref a0),c,d]/\Nest H' L as (rw2 ((r.take i).map (sb2 a b)++r.drop i))/\H' a0=some (.lst [.int a,.int b])/\(∀x o,x∉as->H x=some o->H' x=some o)/\(∀x,H' x=none->H x=none),
  ⟨as.length,by omega,c4,c5,rfl,by simpa using hn,h0,λ_ _ _ e=>e,λ_ e=>e⟩,λi m σ H' qQ=>?_⟩
 obtain⟨hm,c,d,e1,e2,e3,e4,e5⟩:=qQ;have sq:SqL K H' L (as.map V.ref):=.inl (.inl e2.top);by_cases hi:i<as.length
 ·have hir:i<r.length:=by omega
  have hx:(as.map V.ref)[i]?=some (.ref as[i]):=by rw[zE,yS hi];rfl
  refine .inr ⟨⟨_,_,sq,hx⟩,λσ' H'=>∃c d,σ'=[x0,some (.ref L),g,some (.ref a0),c,d]/\Nest H' L as (rw2 ((r.take (i+1)).map (sb2 a b)++r.drop (i+1)))/\H' a0=some (.lst [.int a,.int b])/\(∀x o,x∉as->H x=some o->H' x=some o)/\(∀x,H' x=none->H x=none),λσ' H' z=>⟨m-1,by omega,by omega,z⟩,λz H'' qQ=>?_⟩;obtain⟨eH,ez⟩:=qQ;subst eH e1;have ez':=ez _ sq;rw[hx] at ez';cases ez';have mem:as[i]∈as:=zS hi;have hne:as[i]≠a0:=λz=>hna (z▸mem);have split:(r.take i).map (sb2 a b)++r.drop i=(r.take i).map (sb2 a b)++r[i]::r.drop (i+1):=by rw[z9 hir]
  have hl1:((r.take i).map (sb2 a b)).length=i:=by simp;omega
  have hrow:H'' as[i]=some (.lst [.int r[i].1,.int r[i].2]):=by
   refine e2.row i as[i] [r[i].1,r[i].2] (yS hi) ?_;rw[split];show(List.map r2 _)[i]?=_;rw[zE,zF (by omega),hl1,Nat.sub_self];rfl
  show tRgI K _ [x0,some (.ref L),g,some (.ref a0),some (.ref as[i]),d] H'';refine rgI e3 hrow hne λc'=>⟨_,_,rfl,?_,by rw[aA (zL hne)];exact e3,λx o hxn e=>?_,λx e=>?_⟩
  ·have hlen:(rw2 ((r.take (i+1)).map (sb2 a b)++r.drop (i+1))).length=as.length:=by simp;omega
   refine⟨by rw[aA (λz=>e2.ne _ mem z.symm)];exact e2.top,hlen.symm,λj y w h1 h2=>?_,e2.nd,e2.ne⟩;have h2':((r.take (i+1)).map (sb2 a b)++r.drop (i+1))[j]?.map r2=some w:=by rw[←zE];exact h2
   by_cases hj:j=i
   ·subst hj
    rw[yS hi] at h1;cases h1;rw[zG (by simp;omega),zE,List.getElem?_take_of_lt (Nat.lt_succ_self _),yS hir] at h2';cases h2';rw[upd_same];rfl
   ·have hya:y≠as[i]:=λz=>by
     subst z;exact hj ((List.getElem?_inj (List.getElem?_eq_some_iff.mp h1).1 e2.nd).mp (h1.trans (yS hi).symm))
    rw[aA hya];refine e2.row j y w h1 ?_;show(List.map r2 _)[j]?=_;rw[zE,←h2']
    congr 1
    by_cases hlt:j<i
    ·rw[zG (by simp;omega),zG (by simp;omega),zE,zE,List.getElem?_take_of_lt hlt,List.getElem?_take_of_lt (by omega)]
    ·have hjr:j<r.length:=by have:=(List.getElem?_eq_some_iff.mp h1).1;omega
     rw[zF (by simp;omega),zF (by simp;omega),List.getElem?_drop,List.getElem?_drop];simp only[yI,zO]
     congr 1
     omega
  ·have hxa:x≠as[i]:=λz=>hxn (z▸mem)
   rw[aA hxa];exact e4 x o hxn e
  ·by_cases hxa:x=as[i]
   ·subst hxa;rw[upd_same] at e;cases e
   ·rw[aA hxa] at e;exact e5 x e
 ·have hi':i=as.length:=by omega
  subst hi' e1;refine .inl ⟨⟨_,sq,by simp⟩,q _ _ H' ?_ e4 e5⟩;rw[len,zV,List.drop_length,aAQ] at e2;exact e2
theorem rgW{K:PySem.W.Frag}{D:Ends}(hn:Nest H L as (rw2 l))(new:Addr->Prop)(hnew:∀a,a=L\/a∈as->new a)(hfr:∀a,H a=none->new a)
  (q:∀σ H',σ[2]?=some (some (.int (g+rings l)))->(∀x o,¬new x->H x=some o->H' x=some o)->D.nx σ H'):tRgW K D [x0,some (.ref L),some (.int g),c3,c4,c5] H:=by
 refine⟨λm σ H'=>∃L as l' g' a b c,m=l'.length/\σ=[x0,some (.ref L),some (.int g'),a,b,c]/\Nest H' L as (rw2 l')/\(∀a,a=L\/a∈as->new a)/\(∀a,H' a=none->new a)/\g'+rings l'=g+rings l/\(∀x o,¬new x->H x=some o->H' x=some o),
  ⟨l.length,L,as,l,g,_,_,_,rfl,rfl,hn,hnew,hfr,rfl,λ_ _ _ e=>e⟩,λm σ H' qQ=>?_⟩
 obtain⟨L,as,l',g',a3,a4,a5,em,e1,e2,e3,e4,e5,e6⟩:=qQ;subst e1;have len:as.length=l'.length:=by have:=e2.len;simpa using this
 refine⟨.ref L,rfl,?_⟩;dsimp only[tNil];refine⟨L,as.map V.ref,rfl,.inl (.inl (.inl e2.top)),((as.map V.ref).length:Nat),0,rfl,rfl,_,rfl,?_⟩
 cases l' with
 |nil=>
  have ha:as=[]:=List.length_eq_zero_iff.mp (by simpa using len);subst ha;rw[yK (by simp)];exact q _ H' (by rw[←e5];simp[jX]) e6
 |cons p r=>
  obtain⟨a,b⟩:=p
  cases as with
  |nil=>simp at len
  |cons a0 as=>
   rw[yM (by simp)];refine⟨λσ' H''=>∃L as l' g' a b c,l'.length=r.length/\σ'=[x0,some (.ref L),some (.int g'),a,b,c]/\Nest H'' L as (rw2 l')/\(∀a,a=L\/a∈as->new a)/\(∀a,H'' a=none->new a)/\g'+rings l'=g+rings l/\(∀x o,¬new x->H x=some o->H'' x=some o),λσ' H'' ⟨L,as,l2,g2,b3,b4,b5,y0,y1,y2,y3,y4,y5,y6⟩=>⟨r.length,by rw[em];simp,L,as,l2,g2,b3,b4,b5,y0.symm,y1,y2,y3,y4,y5,y6⟩,?_⟩;have h0:H' a0=some (.lst [.int a,.int b]):=e2.row 0 a0 [a,b] rfl rfl;have nd:=e2.nd;rw[List.nodup_cons] at nd;dsimp only[tSeq];refine⟨.ref L,rfl,L,_,_,.ref a0,rfl,rfl,.inl (.inl e2.top),at_nat (i:=0) rfl,?_⟩;dsimp only[gName];refine⟨.ref L,rfl,1,rfl,L,_,rfl,.inl (.inl e2.top),λM2 hL2=>?_⟩;have cut:cutV ((a0::as).map V.ref) (some 1) none=as.map V.ref:=cut_from ((a0::as).map V.ref) 0;rw[cut];have hL2a:a0≠M2:=aB h0 hL2;have inn:∀(j:Nat) y w,as[j]?=some y->(rw2 r)[j]?=some w->H' y=some (.lst (w.map V.int)):=λj y w g1 g2=>e2.row (j+1) y w (by simpa using g1) (by simpa using g2);have asn:∀y∈as,y≠M2:=λy hy=>by
    obtain⟨j,hj,e⟩:=List.mem_iff_getElem.mp hy;have hjr:j<r.length:=by simp at len;omega
    exact aB (inn j y (r2 r[j]) (by rw[yS hj,e]) (by rw[zE,yS hjr];rfl)) hL2
   have N2:Nest (L2.upd H' M2 (.lst (as.map V.ref))) M2 as (rw2 r):=by
    refine⟨upd_same,by simpa using len,λj y w g1 g2=>?_,nd.2,asn⟩;rw[aA (asn y (aAA g1))];exact inn j y w g1 g2
   have h02:L2.upd H' M2 (.lst (as.map V.ref)) a0=some (.lst [.int a,.int b]):=by rw[aA hL2a];exact h0
   have newL2:new M2:=e4 M2 hL2;have k6:∀x o,¬new x->H x=some o->L2.upd H' M2 (.lst (as.map V.ref)) x=some o:=λx o hx e=>by
    have hxm:x≠M2:=by rintro rfl;exact hx newL2
    rw[aA hxm];exact e6 x o hx e
   have k4:∀x,L2.upd H' M2 (.lst (as.map V.ref)) x=none->new x:=λx e=>by
    by_cases hx:x=M2
    ·subst hx;exact newL2
    ·rw[aA hx] at e;exact e4 x e
   have rest:∀g'':Int,g''=g'+(if a=b then 1 else 0)->tFor (iList K (tVar 1)) (gName 4) (tRgI K) {D with nx:=λσ' H''=>∃L as l' g' a b c,l'.length=r.length/\σ'=[x0,some (.ref L),some (.int g'),a,b,c]/\Nest H'' L as (rw2 l')/\(∀a,a=L\/a∈as->new a)/\(∀a,H'' a=none->new a)/\g'+rings l'=g+rings l/\(∀x o,¬new x->H x=some o->H'' x=some o),ct:=λσ' H''=>∃L as l' g' a b c,l'.length=r.length/\σ'=[x0,some (.ref L),some (.int g'),a,b,c]/\Nest H'' L as (rw2 l')/\(∀a,a=L\/a∈as->new a)/\(∀a,H'' a=none->new a)/\g'+rings l'=g+rings l/\(∀x o,¬new x->H x=some o->H'' x=some o),bk:=D.nx} [x0,some (.ref M2),some (.int g''),some (.ref a0),a4,a5] (L2.upd H' M2 (.lst (as.map V.ref))):=by
    intro g'' hg;refine rgL h02 N2 nd.1 hL2a λc d H4 z1 z2 z3=>⟨M2,as,r.map (sb2 a b),g'',_,_,_,by simp,rfl,z1,λy hy=>?_,λy hy=>k4 y (z3 y hy),?_,λx o hx e=>z2 x o (λz=>hx (e3 x (.inr (yR _ z)))) (k6 x o hx e)⟩
    ·rcases hy with hy|hy
     ·rw[hy];exact newL2
     ·exact e3 y (.inr (yR _ hy))
    ·rw[←e5,bB,hg]
     split<;>simp<;>omega
   refine⟨.ref a0,rfl,a0,_,_,.int a,rfl,rfl,.inl (.inl h02),rfl,.ref a0,rfl,a0,_,_,.int b,rfl,rfl,.inl (.inl h02),rfl,a,b,rfl,rfl,_,rfl,?_⟩;dsimp only;by_cases hab:a=b
   ·rw[yM (show decide (a=b)=true from zT hab)]
    refine⟨.int g',rfl,g',1,rfl,rfl,?_⟩;exact rest (g'+1) (by rw[yM hab])
   ·rw[yK (show¬decide (a=b)=true from by simpa using hab)]
    exact rest g' (by rw[yK hab];omega)
theorem fK:∀{R:List (List Int)}{l:List (Int×Int)},pairsI R=some l->R=rw2 l
 |[],l,h=>by simp[pairsI] at h;subst h;rfl
 |[a,b]::R,l,h=>by
  rw[pairsI] at h
  cases e:pairsI R with
  |none=>rw[e] at h;cases h
  |some q=>rw[e] at h;cases h;rw[fK e];rfl
 |[]::R,l,h=>by simp[pairsI] at h
 |[_]::R,l,h=>by simp[pairsI] at h
 |(_::_::_::_)::R,l,h=>by simp[pairsI] at h
theorem six{α:Type}{σ:List α}(h:σ.length=6):∃a b c d e f,σ=[a,b,c,d,e,f]:=by
 match σ,h with
 |[a,b,c,d,e,f],_=>exact⟨a,b,c,d,e,f,rfl⟩
section
variable{X:Cx}{cl:Nat->Addr}{XE:Nat->St->Hp->Prop}{Φ:Nat->List D->R D}{G:List D}{n:Nat}
theorem oks_rgs(h1:Copy X cl 0 1 s1)(h2:PS X s2 (tAsg (tC (.int 0)) (gName 2)))(h3:PS X s3 (tRgW X.K))(h4:PS X s4 (tRet (tVar 2))):OkSs X cl XE Φ G n [.rgs] [s1,s2,s3,s4]:=by
 obtain⟨t1,p1,i1⟩:=h1;refine⟨_,aE p1 (aE h2 (aE h3 (aI h4))),λF₀ H₀ F σ δ H W f0 h=>?_⟩;have hx:PostS X.K cl XE F₀ H₀ W (rgsD δ):=by
  simp only[xecs,xec] at h;cases e:rgsD δ<;>rw[e] at h<;>exact h
 clear h;unfold rgsD at hx
 cases e:(asRows (rdV δ 0)).bind pairsI with
 |none=>rw[e] at hx;exact hx.elim
 |some l=>
  rw[e] at hx;dsimp only at hx;by_cases hc:δ.length=6/\l.length<=900
  ·rw[yM hc] at hx
   cases er:asRows (rdV δ 0) with
   |none=>rw[er] at e;cases e
   |some R=>
    rw[er,aAG] at e;have eR:=fK e;subst eR;have e0:=pB er;have hσ:σ.length=6:=by rw[f0.sees.len];exact hc.1
    obtain⟨y0,y1,y2,y3,y4,y5,rfl⟩:=six hσ;show t1 _ H _;refine i1 F _ δ H _ false (rw2 l) f0.sees e0 (by simp;omega) λH1 L as sm fL fas nn=>?_;show tRgW X.K _ [y0,some (.ref L),some (.int 0),y3,y4,y5] H1;refine rgW nn (λa=>H a=none) (λa ha=>?_) (λa ha=>sm.free ha) λσ' H' hs hk=>?_
    ·rcases ha with rfl|ha
     ·exact fL
     ·exact fas a ha
    ·rw[Int.zero_add] at hs
     refine⟨_,hs,hx F _ H' (f0.up.trans ⟨λa o z=>hk a o (by rw[z];exact Option.some_ne_none _) (sm _ _ z),λ_ z=>z,λ_ z=>.inl z⟩) (by simp[Rep])⟩
  ·rw[yK hc] at hx;exact hx.elim
end
section
variable{X:Cx}{cl:Nat->Addr}
theorem cA{tg iter:Expr}{body:List Stmt}{wi:TI}{g:TG}{tb:TS}{pos:Pos}(hi:PI X.nox tg iter wi)(hg:PG X.nox tg g)(hb:PSs X.nox body tb)(hc:X.calm=true:=by rfl)(hs:∀x,foldedSetIterable iter X.nox.env x=pure x:=by intro _;rfl):PS X (.For tg iter body [] pos) (tFor wi g tb):=
 PS.nox (uS (X:=X.nox) PassesOwn.never hc hi hg hb hs)
theorem q_while(hc:PT X.nox c tc)(hb:PSs X.nox body tb):PS X (.While c body [] pos) (tWhile tc tb):=PS.nox (mC (X:=X.nox) PassesOwn.never hc hb)
theorem bC{i:Nat}{x:Str}{e:Expr}{te:TE}{pos pos':Pos}(hN:X.N.Nodup)(he:PE X e te)(hi:X.N[i]?=some x:=by rfl)(hx:Loc X.env.scope x:=by first|exact Or.inl rfl|exact Or.inr rfl)(hs:swapsWith e (some (.Name x pos')) pos.line X.env=pure false:=by rfl)(hf:X.fn x=true\/X.env.scope.names.lookup x=some .local:=by first|exact .inl rfl|exact .inr rfl):
  PS X (.Assign [.Name x pos'] e pos) (tAsg te (gName i)):=oQ hN hi hx he hs hf
theorem gH{elts:List Expr}{k:Nat}{tpos:Pos}{o:Expr}{apos cpos:Pos}{td:TE}(ho:PE X o td)(hbase:attributeBase o "items" X.env (eval o X.env)=eval o X.env:=by rfl)(hline:(apos.endLine==cpos.line)=true:=by rfl):
  PI X (.Tuple elts k tpos) (.Call (.Attribute o "items" apos) [] [] cpos) (iItems (tDM0 rItems td)):=wL (pe_dm0 PySem.F.slot_dict_items PySem.F.type_dict_items wK ho hbase hline)
theorem pO{o e f:Expr}{apos cpos:Pos}{td:TE}{t:TA}(hu:X.A.units+20<cLine)(ho:PE X o td)(ha:PA X [e,f] t)(hbase:attributeBase o "get" X.env (eval o X.env)=eval o X.env:=by rfl)
  (hfew:((backTo cpos (starEach [e,f] X.env)).all (λx=>!x.1)&&(backToKw cpos (keywordEach [] X.env)).all (λx=>x.1.isSome)&&decide (([e,f]:List Expr).length+([]:List Keyword).length+(if([]:List Keyword).isEmpty then 0 else 1)<30))=true:=by rfl)
  (hline:(apos.endLine==cpos.line)=true:=by rfl) (hs:starEach [e,f] X.env=(false,eval e X.env)::starEach [f] X.env:=by rfl) (hplain:(backTo cpos (starEach [f] X.env)).any (·.1)=false:=by rfl):
  PE X (.Call (.Attribute o "get" apos) [e,f] [] cpos) (tDM (rGet2 X.K) td t):=pe_dm PySem.F.slot_dict_get PySem.F.type_dict_get (mt_get2 hu) ho ha hbase hfew hline hs hplain
theorem q_setd{o e f:Expr}{apos cpos:Pos}{td:TE}{t:TA}(ho:PE X o td)(ha:PA X [e,f] t)(hbase:attributeBase o "setdefault" X.env (eval o X.env)=eval o X.env:=by rfl)
  (hfew:((backTo cpos (starEach [e,f] X.env)).all (λx=>!x.1)&&(backToKw cpos (keywordEach [] X.env)).all (λx=>x.1.isSome)&&decide (([e,f]:List Expr).length+([]:List Keyword).length+(if([]:List Keyword).isEmpty then 0 else 1)<30))=true:=by rfl)
  (hline:(apos.endLine==cpos.line)=true:=by rfl) (hs:starEach [e,f] X.env=(false,eval e X.env)::starEach [f] X.env:=by rfl) (hplain:(backTo cpos (starEach [f] X.env)).any (·.1)=false:=by rfl):
  PE X (.Call (.Attribute o "setdefault" apos) [e,f] [] cpos) (tDM rSetD td t):=pe_dm PySem.F.slot_dict_setdefault PySem.F.type_dict_setdefault mt_setd ho ha hbase hfew hline hs hplain
noncomputable abbrev Ne(cl:Nat->Addr):St->XK:=λσ=>XK1 cl λc=>(λ_ _ _=>False:Nat->St->Hp->Prop) c σ
theorem aW{k:Nat}{f:Addr}{fd:FuncData}{ps:List Str}{sp:Sp}{x:Str}{p pos:Pos}{e:Expr}{es:List Expr}{t:TA}(Fo:FnOk X.prog X.w X.K X.mg X.base (CXE X.prog X.w) k f fd ps sp)(hr:Room k X.A)(hm:X.mg x=some (.ref f))(hk:PySem.W.keepIn X.K (.ref f)=true)(hb:Binds X.K fd ps [])(ha:PA X (e::es) t)
  (hg:Gl X x:=by rfl) (hdb:(x==("__debug__":Str))=false:=by decide) (he:starEach (e::es) X.env=(false,eval e X.env)::starEach es X.env:=by rfl) (hpl:(backTo pos (starEach es X.env)).any (·.1)=false:=by rfl):
  PE X (.Call (.Name x p) (e::es) [] pos) (tCall sp (Ne cl) t):=mL Fo hr hg hm hk hb (λ_=>g4) ha hdb he hpl
theorem iD{a b:Expr}{ta tb:TE}{pos:Pos}(ha:PE X a ta)(hb:PE X b tb)(hs:PlainIx b:=by exact λ_ _=>rfl):PE X (.Subscript a b pos) (tOp (rIxT X.K) ta tb):=u0 u8 ha hb hs
theorem iE{a b:Expr}{ta tb:TE}{pos:Pos}(ha:PE X a ta)(hb:PE X b tb)(hs:PlainIx b:=by exact λ_ _=>rfl):PE X (.Subscript a b pos) (tOp (rIxL X.K) ta tb):=u0 ix_list ha hb hs
theorem iF{i:Nat}{x:Str}{pos:Pos}(hN:X.N.Nodup)(hi:X.N[i]?=some x:=by rfl)(hx:Loc X.env.scope x:=by first|exact Or.inl rfl|exact Or.inr rfl)(hf:X.fn x=true\/X.env.scope.names.lookup x=some .local:=by first|exact .inl rfl|exact .inr rfl):PG X (.Name x pos) (gName i):=(v9 (cl:=λ_=>0) hN hi hx hf).1
theorem rM{i j:Nat}{x y:Str}{k:Nat}{p1 p2 pos:Pos}(hN:X.N.Nodup)(hc:X.calm=true:=by rfl)(hi:X.N[i]?=some x:=by rfl)(hx:Loc X.env.scope x:=by first|exact Or.inl rfl|exact Or.inr rfl)(hf:X.fn x=true\/X.env.scope.names.lookup x=some .local:=by first|exact .inl rfl|exact .inr rfl)
  (hj:X.N[j]?=some y:=by rfl) (hy:Loc X.env.scope y:=by first|exact Or.inl rfl|exact Or.inr rfl) (hf2:X.fn y=true\/X.env.scope.names.lookup y=some .local:=by first|exact .inl rfl|exact .inr rfl):PG X (.Tuple [.Name x p1,.Name y p2] k pos) (gTwo X.K i j):=(g_two (cl:=λ_=>0) hN hc hi hx hf hj hy hf2).1
theorem wX(ho:PE X o to)(hi:PE X i ti)(hs:PSet X t)
  (ha:∀v,assign (.Subscript o i pos) X.env v=(do
   let ov←holding [v] (eval o X.env)
   let iv←holding [v,ov] (eval i X.env)
   standAt pos
   holding [v,ov,iv] (setItem ov iv v)
   release [v,ov,iv] []):=by intro _;rfl):PG X (.Subscript o i pos) (gSub to ti t):=uQ ho hi hs ha
theorem iG(he:PE X e te)(hs:swapsWith e none pos.line X.env=pure false:=by rfl):PS X (.Expr e pos) (tDrop te):=qH he hs
theorem q_len{a:Expr}{ta:TE}{p pos:Pos}(hm:X.mg "len"=none)(ha:PE X a ta)(hg:Gl X "len":=by rfl)(hs:starEach (a::[]) X.env=(false,eval a X.env)::starEach [] X.env:=by rfl):PE X (.Call (.Name "len" p) [a] [] pos) (tCB (rLenS X.K) (tCons ta tNil)):=
 dF dM hg hm PySem.boot_len (pa_cons ha pa_nil hs) (by decide) (by decide) hs rfl
theorem q_max{a:Expr}{ta:TE}{p pos:Pos}(hm:X.mg "max"=none)(ha:PE X a ta)(hc:X.calm=true:=by rfl)(hg:Gl X "max":=by rfl)(hs:starEach (a::[]) X.env=(false,eval a X.env)::starEach [] X.env:=by rfl):PE X (.Call (.Name "max" p) [a] [] pos) (tCB (rMax X.K) (tCons ta tNil)):=
 dF (tI hc) hg hm boot_max (pa_cons ha pa_nil hs) (by decide) (by decide) hs rfl
theorem q_lst{a:Expr}{ta:TE}{p pos:Pos}(hm:X.mg "list"=none)(ha:PE X a ta)(hc:X.calm=true:=by rfl)(hg:Gl X "list":=by rfl)(hs:starEach (a::[]) X.env=(false,eval a X.env)::starEach [] X.env:=by rfl):PE X (.Call (.Name "list" p) [a] [] pos) (tCB rLstD (tCons ta tNil)):=
 eI (pL hc) hg hm boot_list (pa_cons ha pa_nil hs) (by decide) (by decide) hs rfl
theorem q_down{tg a b c:Expr}{ta:TA}{p pos:Pos}(hm:X.mg "range"=none)(ha:PA X [a,b,c] ta)(hg:Gl X "range":=by rfl)(hs:starEach [a,b,c] X.env=[(false,eval a X.env),(false,eval b X.env),(false,eval c X.env)]:=by rfl)(hs2:starEach [b,c] X.env=[(false,eval b X.env),(false,eval c X.env)]:=by rfl):
  PI X tg (.Call (.Name "range" p) [a,b,c] [] pos) (iDown ta):=pi_down hg hm ha hs hs2
theorem wY{tg a:Expr}{ta:TA}{p pos:Pos}(hm:X.mg "range"=none)(ha:PA X [a] ta)(hg:Gl X "range":=by rfl)(hs:starEach [a] X.env=[(false,eval a X.env)]:=by rfl):PI X tg (.Call (.Name "range" p) [a] [] pos) (iRng1 ta):=jF hg hm ha hs
end
theorem rN{K:PySem.W.Frag}(h:∀(cl:Nat->Addr)(F:Addr->Prop)(H:Hp),Rep K cl F H (.tup [.int x,.int y]) v):∃a,v=.ref a/\∀H,SqT K H a [.int x,.int y]:=by
 have one:∀H,∃a,v=.ref a/\SqT K H a [.int x,.int y]:=λH=>by
  have:=h (λ_=>0) (λ_=>False) H;simp only[Rep,Reps] at this;obtain⟨a,vs,e,q,v1,r1,rfl,rfl,v2,r2,rfl,rfl,rfl⟩:=this;exact⟨a,e,q⟩
 obtain⟨a,rfl,_⟩:=one λ_=>none;refine⟨a,rfl,λH=>?_⟩;obtain⟨a',e,q⟩:=one H;cases e;exact q
section
variable{P:Program}{w:World}{K:PySem.W.Frag}{mg:Str->Option Value}{base:Heap}{cl:Nat->Addr}{Pg:Prog}
theorem fn_L{x qual:Str}{st:Stmt}{fa:Addr}{fd:FuncData}{N ps:List Str}{k:Nat}{sp:Sp}{t:XK->TS}(F:Fun K x qual st fa fd)(S:FnScope N ps (defScope st))(len:∀vs H Q E,sp vs H Q E->vs.length=ps.length)
  (run:∀{vs H Q E},sp vs H Q E->t E {nx:=λ_ H'=>Q .non H',rt:=Q} (start N vs) H)
  (hb:∀(cd:Value)(A:Around)(outer:List Env)(s:Shared)(H:Hp)(E:XK),Room k (A.deeper (envOfC qual (defScope st) s.heap.objs.size fa cd))->PSs (cxE P w K mg base N qual (defScope st) fa cd A outer s H E) (defBody st) (t E)):FnOk P w K mg base (CXE P w) (k+1) fa fd ps sp:=by
 obtain⟨oc,od,kV,doc,pm,an,cdv,ct,osl,rfl,lk,hcd⟩:=F.ex;exact fn_of lk hcd S len λA outer s H vs Q E hr h=>⟨t E,hb cdv A outer s H E hr,run h⟩
theorem bQ(h:∀ds,Phi Pg j f ds=.bad):FnOk P w K mg base (CXE P w) k fa fd ps (spOf K cl (Phi Pg j) f):=
 ⟨λvs H Q E ⟨F,ds,_,_,z⟩=>by rw[h] at z;exact z.elim,λA outer s H args us vs Q E _ _ _ _ ⟨F,ds,_,_,z⟩=>by rw[h] at z;exact z.elim⟩
end
theorem walk_law4{l:PySem.W.OpenLaw}{K:Params->PySem.W.Frag}(ht:∀ns:List Int,ns.length<=63->Phi Pg j f [.scr ns]=.ok (.bl true))
  (hn:l.most=some 63) (hdf:d.params.defaults=[]) (hY:∀(w:World)(h:Heap),YP w h->(K w.params).In h)
  (F:∀(w:World)(mg mb:Str->Option Value)(mean:ExcName->Option Value)(fa:Addr)(h:Heap),(K w.params).In h->Top q (PySem.W.looseW q loose) mean mg mb h->mg d.name=some (.ref fa)->
   ∃(fd:FuncData)(cl:Nat->Addr),(∀(s:Shared)(u:Value),BindsTo s fd ⟨[u],[]⟩ [("script",u)])/\∀base:Heap,(K w.params).In base->base.Ns mainGlobals mg->(∀b o,h.get? b=some o->(∀its n,o.data≠.seq its n)->base.get? b=some o)->
    FnOk l.prog w (K w.params) mg base (CXE l.prog w) (4*j+4) fa fd ["script"] (spOf (K w.params) cl (Phi Pg j) f)) (hj:j<=14):
  PySem.W.WalkO q loose XP YP l.row.toRowW d [] (λf vs=>PySem.call f vs):=by
 refine Att.attach_call hn hdf λw s₀ s₁ mg mb fa o pm cd doc a vs ns G Y ho hd hcd hmg hobj hints hlen hg=>?_;have KX:=hY w _ Y;obtain⟨fd,cl,hb,hF⟩:=F w mg mb _ fa _ KX G.T hmg;have hr:Room (4*j+4) callerA:=by
  have r:Room 60 callerA:=⟨rfl,by decide,by decide⟩
  exact r.mono (by omega)
 exact tG KX G.T.g G.T.b G.T.builtins G.T.nolimit hg hobj hints (zB hlen (by decide)) hr hF hb (λH hO hS=>sp_law (ht ns hlen) hO hS) λH e s' z=>no_cxe z
section
variable{prog:Program}{w:World}{A:Around}{E:Value->Shared->Prop}{s:Shared}
noncomputable def At(xs:Array Keyed)(i:Nat)(n:Int):Prop:=∃t p,xs[i]?=some (.int n t,p)
theorem s_lt{st:SortSt}(hk:kindOf st=oneType')(hi:At (arrOf st) i a)(hj:At (arrOf st) j b)(h:Q (some (decide (a<b))) st):wpS (model prog w) A E s (ltAt' i j) Q st:=by
 obtain⟨t,p,hi⟩:=hi;obtain⟨u,q,hj⟩:=hj;exact wpS_ltAt hk hi hj h
theorem e8(hj:j<=xs.size)(hk:i<=k/\k<j)(h:At xs (i+j-1-k) n):At (mirror xs i j ((j-i)/2)) k n:=by
 obtain⟨t,p,h⟩:=h;exact⟨t,p,by rw[getElem?_mirror_all hj,yM hk,h]⟩
theorem bH(hj:j<=xs.size)(hk:¬(i<=k/\k<j))(h:At xs k n):At (mirror xs i j ((j-i)/2)) k n:=by
 obtain⟨t,p,h⟩:=h;exact⟨t,p,by rw[getElem?_mirror_all hj,yK hk,h]⟩
theorem wZ{st:SortSt}{lo n nrem:Nat}{f:Nat->Int}(hk:kindOf st=oneType')(h2:2<=n)(hn:n<=nrem)(hat:∀i,i<n->At (arrOf st) (lo+i) (f i))(hf:∀i,i+1<n->f (i+1)<f i)(sz:lo+nrem<=(arrOf st).size)
  (he:n=nrem\/∃z,At (arrOf st) (lo+n) z/\f (n-1)<z/\z<f 0) (h:Q (some n) (setArr st (mirror (arrOf st) lo (lo+n) ((lo+n-lo)/2)))):wpS (model prog w) A E s (countRun' lo nrem) Q st:=by
 rw[countRun'_eq];have prev:∀i,1<=i->i<=n->At (arrOf st) (lo+i-1) (f (i-1)):=λi a b=>by
  have:=hat (i-1) (by omega);rwa[show lo+(i-1)=lo+i-1 by omega] at this
 refine zC (wpS_mono (wpS_forRange (I:=λx c st'=>x=1/\c=(none,1)/\st'=st) (Q:=λc st'=>c=(none,1)/\st'=st) ?a1 ?b1 ⟨rfl,rfl,rfl⟩) ?_)
 case b1=>
  rintro c st' ⟨hx,_,_⟩;omega
 case a1=>
  rintro x c st' h1 hx ⟨rfl,rfl,rfl⟩;refine zC (s_lt hk (hat 1 (by omega)) (prev 1 (by omega) (by omega)) ?_);have:=hf 0 (by omega);simp only[Nat.sub_self,this,decide_true,yT];exact wpS_pure ⟨rfl,rfl⟩
 rintro c st' ⟨rfl,rfl⟩;dsimp only;rw[yK (by simp;omega),yK (by decide)];refine zC (wpS_lift (wpAny_rule ⟨rfl,?_⟩));refine zC (wpS_mono (wpS_forRange (I:=λx c st2=>x<=n/\c=(none,x,0)/\st2=st') (Q:=λc st2=>c=(none,n,0)/\st2=st') ?a2 ?b2 ⟨by omega,rfl,rfl⟩) ?_)
 case b2=>
  rintro c st' ⟨hx,rfl,rfl⟩;rw[show max (1+1) nrem=n by omega];exact⟨rfl,rfl⟩
 case a2=>
  rintro x c st' h1 hx ⟨hxn,rfl,rfl⟩;dsimp only;rcases Nat.lt_or_ge x n with hlt|hge
  ·refine zC (s_lt hk (hat x hlt) (prev x (by omega) (by omega)) ?_)
   have:=hf (x-1) (by omega);rw[show x-1+1=x by omega] at this;simp only[this,decide_true,yT,aAD,yX,gt_iff_lt];exact wpS_pure ⟨by omega,rfl,rfl⟩
  ·obtain rfl:x=n:=by omega
   obtain⟨z,hz,h3,h4⟩:=he.resolve_left (by omega);refine zC (s_lt hk hz (prev x (by omega) (by omega)) ?_);simp only[show¬z<f (x-1) by omega,aAT,yH,yX];refine zC (s_lt hk (prev x (by omega) (by omega)) hz ?_);simp only[h3,decide_true,yT];exact wpS_pure ⟨rfl,rfl⟩
 rintro c st' ⟨rfl,rfl⟩;dsimp only;rw[yK (by decide)];refine zC (wpS_reverse ?_);refine zC (wpS_mono (wpS_forRange (I:=λx c st2=>x=n/\c=(none,n)/\st2=setArr st' (mirror (arrOf st') lo (lo+n) ((lo+n-lo)/2))) (Q:=λc st2=>c=(none,n)/\st2=setArr st' (mirror (arrOf st') lo (lo+n) ((lo+n-lo)/2))) ?a3 ?b3 ⟨rfl,rfl,rfl⟩) ?_)
 case b3=>exact λc st2 h=>h.2
 case a3=>
  rintro x c st2 h1 hx ⟨rfl,rfl,rfl⟩;dsimp only;obtain⟨z,hz,h3,h4⟩:=he.resolve_left (by omega);refine zC (s_lt hk (bH (by omega) (by omega) hz) (e8 (n:=f 0) (by omega) (by omega) (by have:=hat 0 (by omega);rwa[show lo+0=lo+(lo+x)-1-(lo+x-1) by omega] at this)) ?_);simp only[h4,decide_true,yT];exact wpS_pure ⟨rfl,rfl⟩
 rintro c st2 ⟨rfl,rfl⟩;exact wpS_pure h
theorem rO{st:SortSt}(hk:kindOf st=oneType')(hx:x.1=.int a t)(hy:y.1=.int b u)(h:Q (some (decide (a<b))) st):wpS (model prog w) A E s (lt' x y) Q st:=by
 rw[lt'_eq];refine zC (wpS_get ?_);rw[hk,keyLt'_oneType,hx,hy];refine zC (wpS_lift (wpAny_attempt (oneLt_int ⟨rfl,?_⟩)));exact wpS_pure h
theorem s_el{st:SortSt}(e:xs[i]?=some x)(h:Q x st):wpS (model prog w) A E s (elem' xs i) Q st:=by
 rw[elem'_eq,e];exact wpS_pure h
theorem rP{f:Nat->β->StateT SortSt Sem (ForInStep β)}{c:β}{st:SortSt}{Q:β->SortSt->Prop}(hf:∀x,f x c=pure (.done c))(h:Q c st):wpS (model prog w) A E s (forIn [a:b] c f) Q st:=
 wpS_forRange (I:=λ_ c' st'=>c'=c/\st'=st) (λx c' st' _ _ z=>by obtain⟨rfl,rfl⟩:=z;rw[hf];exact wpS_pure h) (λc' st' z=>by obtain⟨rfl,rfl⟩:=z;exact h) ⟨rfl,rfl⟩
noncomputable abbrev gal:Bool->Keyed->Array Keyed->Nat->Nat->Nat->StateT SortSt Sem (Option Nat):=sortPriv%PySem.Builtin.gallop
theorem s_gal0{st:SortSt}(hk:kindOf st=oneType')(e:xs[b+0]?=some x)(h1:k.1=.int p t)(h2:x.1=.int q u)(hlt:p<q)(h:Q (some 0) st):wpS (model prog w) A E s (gal false k xs b n 0) Q st:=by
 refine zC (zC (s_el e ?_));rw[yK (by decide)];refine zC (rO hk h1 h2 ?_);refine wpS_pure ?_;simp only[hlt,decide_true,Option.map_some,Bool.not_true,yH,yX];refine zC (rP (λx=>yM (yP _)) ?_);exact zC (rP (λx=>yM (yP _)) (wpS_pure h))
theorem s_gal1{st:SortSt}(hk:kindOf st=oneType')(e:xs[b+n]?=some x)(h1:k.1=.int p t)(h2:x.1=.int q u)(hlt:q<p)(h:Q (some (n+1)) st):wpS (model prog w) A E s (gal true k xs b (n+1) n) Q st:=by
 refine zC (zC (s_el e ?_));rw[yM rfl];refine rO hk h2 h1 ?_;simp only[hlt,decide_true,yT];refine zC (rP (λx=>yM (by show 1>=n+1-n;omega)) ?_);dsimp only;refine zC (rP (λx=>yM (by show n+0+1>=n+min 1 (n+1-n);omega)) (wpS_pure ?_));dsimp only;rwa[show n+min 1 (n+1-n)=n+1 by omega]
noncomputable def mrg{α:Type}:List α->List α->List α
 |x::xs,y::ys=>y::x::mrg xs ys
 |xs,ys=>xs++ys
theorem nN:∀{X Y:List α},X.length=Y.length->mrg (X++[x]) (Y++[y])=mrg X Y++[y,x]
 |[],[],_=>rfl
 |a::X,b::Y,h=>by
  rw[yJ,yJ] at h;show b::a::mrg (X++[x]) (Y++[y])=b::a::(mrg X Y++[y,x]);rw[nN (Nat.succ.inj h)]
 |[],_::_,h=>nomatch h
 |_::_,[],h=>nomatch h
theorem nO{X Y:List α}{x y:α}(hx:X[k]?=some x)(hy:Y[k]?=some y):mrg (X.take (k+1)) (Y.take (k+1))=mrg (X.take k) (Y.take k)++[y,x]:=by
 obtain⟨h1,e1⟩:=List.getElem?_eq_some_iff.mp hx;obtain⟨h2,e2⟩:=List.getElem?_eq_some_iff.mp hy;rw[List.take_succ,List.take_succ,hx,hy];exact nN (by simp;omega)
theorem iH:∀(X Y:List α),(mrg X Y).Perm (X++Y)
 |[],Y=>.refl _
 |x::X,[]=>by show List.Perm ((x::X)++[]) _;exact .refl _
 |x::X,y::Y=>(((iH X Y).cons x).cons y).trans (List.perm_middle (l₁:=x::X)).symm
noncomputable abbrev mLo:Array Keyed->Array Keyed->StateT SortSt Sem (Array Keyed):=sortPriv%PySem.Builtin.mergeLo
theorem s_mlo{st:SortSt}(hk:kindOf st=oneType')(hg:2<=gallopOf st)(h2:3<=m)(ha:a.size=m)(hb:b.size=m)(hA:∀i,i<m->At a i (c+4*i))(hB:∀i,i<m->At b i (c-2+4*i))
  (h:Q (mrg a.toList b.toList).toArray st):wpS (model prog w) A E s (mLo a b) Q st:=by
 obtain⟨t0,p0,b0⟩:=hB 0 (by omega);refine zC (wpS_lift (wpAny_rule ⟨rfl,?_⟩));refine zC (s_el b0 ?_);dsimp only;rw[yK (by simp;omega),yK (by simp;omega)];refine zC (wpS_get ?_);refine zC (wpS_mono (wpS_forRange (I:=λi c st'=>i=0/\c=(none,#[_],0,1,gallopOf st)/\st'=st) (Q:=λc st'=>c.1=some (mrg a.toList b.toList).toArray/\st'=st) ?a ?b ⟨rfl,rfl,rfl⟩) ?_)
 case b=>exact λc st' z=>absurd z.1 (by rw[ha];omega)
 case a=>
  rintro i c' st' _ _ ⟨rfl,rfl,rfl⟩;refine zC (wpS_mono (wpS_forRange (I:=λi c' st2=>st2=st'/\∃k y,k+2<=m/\b[k]?=some y/\((i=2*k/\∃bc,bc<=1/\c'=(none,(mrg (a.toList.take k) (b.toList.take k)++[y]).toArray,k,k+1,0,bc))\/(i=2*k+1/\k+3<=m/\c'=(none,(mrg (a.toList.take (k+1)) (b.toList.take (k+1))).toArray,k+1,k+1,1,0)))) (Q:=λc st2=>c.1=some (mrg a.toList b.toList).toArray/\st2=st') ?a1 ?b1 ⟨rfl,0,_,by omega,b0,.inl ⟨rfl,0,by omega,rfl⟩⟩) ?_)
  case b1=>
   rintro c2 st2 ⟨rfl,k,y,hk2,hy,⟨e,_⟩|⟨e,_⟩⟩<;>(rw[ha,hb] at e;omega)
  case a1=>
   rintro i c2 st2 _ _ ⟨rfl,k,y,hk2,hy,⟨rfl,bc,hbc,rfl⟩|⟨rfl,hk3,rfl⟩⟩
   ·obtain⟨t,p,ea⟩:=hA k (by omega)
    obtain⟨u,q,eb⟩:=hB (k+1) (by omega);refine zC (s_el eb (zC (s_el ea (zC (rO hk rfl rfl ?_)))));simp only[show¬(c-2+4*((k+1:Nat):Int)<c+4*(k:Int)) by omega,aAT,yH,yX];refine zC (s_el ea ?_);have e1:(mrg (a.toList.take k) (b.toList.take k)++[y]).toArray.push (Value.int (c+4*(k:Int)) t,p)=(mrg (a.toList.take (k+1)) (b.toList.take (k+1))).toArray:=by
     rw[nO (by simpa using ea) (by simpa using hy)];simp
    rw[e1];by_cases hm:k+2=m
    ·rw[yM (by simp;omega)]
     refine wpS_pure ⟨?_,rfl⟩;show some _=some _
     congr 1
     apply Array.ext';have l1:a.toList.length=m:=by simpa using ha
     have l2:b.toList.length=m:=by simpa using hb
     obtain⟨t',p',ea'⟩:=hA (k+1) (by omega);have e3:=nO (X:=a.toList) (Y:=b.toList) (by simpa using ea') (by simpa using eb);rw[zX (by omega),zX (by omega)] at e3;rw[e3];have d1:b.toList.drop (k+1)=[(Value.int (c-2+4*((k+1:Nat):Int)) u,q)]:=by
      rw[z9 (by omega),List.drop_eq_nil_of_le (by omega)]
      congr 1
      exact(List.getElem?_eq_some_iff.mp (by simpa using eb)).2
     have d2:a.toList.drop (k+1)=[(Value.int (c+4*((k+1:Nat):Int)) t',p')]:=by
      rw[z9 (by omega),List.drop_eq_nil_of_le (by omega)]
      congr 1
      exact(List.getElem?_eq_some_iff.mp (by simpa using ea')).2
     simp[d1,d2,l1,l2,ha,hb];rw[show m-(k+1)=1 by omega];rfl
    ·rw[yK (by simp;omega),yK (by omega)]
     exact wpS_pure ⟨rfl,k,y,hk2,hy,.inr ⟨rfl,by omega,rfl⟩⟩
   ·obtain⟨t,p,ea⟩:=hA (k+1) (by omega)
    obtain⟨u,q,eb⟩:=hB (k+1) (by omega);refine zC (s_el eb (zC (s_el ea (zC (rO hk rfl rfl ?_)))));simp only[show c-2+4*((k+1:Nat):Int)<c+4*((k+1:Nat):Int) by omega,decide_true,yT];refine zC (s_el eb ?_);rw[yK (by simp;omega),yK (by omega)];exact wpS_pure ⟨rfl,k+1,_,by omega,eb,.inl ⟨rfl,1,by omega,by simp⟩⟩
  rintro⟨r,c2⟩ st2 ⟨rfl,rfl⟩;exact wpS_pure ⟨rfl,rfl⟩
 rintro⟨r,c2⟩ st2 ⟨rfl,rfl⟩;exact wpS_pure h
theorem s_set{st st':SortSt}(h:Q ⟨⟩ st'):wpS (model prog w) A E s (set st':StateT SortSt Sem PUnit) Q st:=by
 unfold wpS;rw[StateT.run_set];exact yN ⟨rfl,h⟩
theorem nP{α:Type}:∀(l:List α)(n:Nat)(xs:Array α),n+l.length<=xs.size->((l.zipIdx n).foldl (λa x=>a.setIfInBounds (0+0+x.2) x.1) xs).toList=xs.toList.take n++l++xs.toList.drop (n+l.length)
 |[],n,xs,_=>by simp
 |x::l,n,xs,h=>by
  rw[yJ] at h;rw[List.zipIdx_cons,List.foldl_cons,nP l (n+1) _ (by simp;omega)];have e:(xs.setIfInBounds (0+0+n) x).toList=xs.toList.set n x:=by simp
  show List.take (n+1) (xs.setIfInBounds (0+0+n) x).toList++l++List.drop (n+1+l.length) (xs.setIfInBounds (0+0+n) x).toList=_;have hl:n<xs.toList.length:=by simp;omega
  rw[e,List.take_succ,zD hl,List.take_set_of_le (yP n),List.drop_set_of_lt (by omega),yJ,show n+1+l.length=n+(l.length+1) by omega];simp
theorem s_merge{st:SortSt}(hk:kindOf st=oneType')(hg:2<=gallopOf st)(hf:failedOf st=none)(hp:pendingOf st= #[(0,m,pw),(m,m,0)])(h2:3<=m)(hs:(arrOf st).size=m+m)(hA:∀i,i<m->At (arrOf st) i (c+4*i))(hB:∀i,i<m->At (arrOf st) (m+i) (c-2+4*i))
  (h:∀st',(arrOf st').toList=mrg ((arrOf st).toList.take m) ((arrOf st).toList.drop m)->failedOf st'=none->pendingOf st'= #[(0,m+m,pw)]->Q true st'):wpS (model prog w) A E s (mergeAt' 0) Q st:=by
 refine zC (wpS_get ?_);dsimp only;have e0:(pendingOf st)[0]?=some (0,m,pw):=by rw[hp];rfl
 have e1:(pendingOf st)[0+1]?=some (m,m,0):=by rw[hp];rfl
 rw[e0,e1];dsimp only;refine zC (s_set ?_);obtain⟨tb,pb,b0⟩:=hB 0 (by omega);obtain⟨ta,pa,a0⟩:=hA 0 (by omega);obtain⟨t1,p1,a1⟩:=hA (m-1) (by omega);obtain⟨t2,p2,b1⟩:=hB (m-1) (by omega);obtain⟨n,rfl⟩:∃n,m=n+1:=⟨m-1,by omega⟩
 rw[Nat.add_sub_cancel] at a1 b1;refine zC (s_el b0 (zC (s_gal0 hk a0 rfl rfl (by omega) ?_)));dsimp only;rw[yK (by simp)];refine zC (s_el (by rw[show 0+0+(n+1-0)-1=n by omega];exact a1) (zC (s_gal1 hk b1 rfl rfl (by omega) ?_)));dsimp only;rw[yK (by simp),yM (by omega)];have sl1:∀i,i<n+1->At ((arrOf st).extract (0+0) (n+1)) i (c+4*i):=λi hi=>by
  obtain⟨t,p,e⟩:=hA i hi;exact⟨t,p,by rw[Array.getElem?_extract,yM (by omega),zN];simpa using e⟩
 have sl2:∀i,i<n+1->At ((arrOf st).extract (n+1) (n+1+(n+1))) i (c-2+4*i):=λi hi=>by
  obtain⟨t,p,e⟩:=hB i hi;exact⟨t,p,by rw[Array.getElem?_extract,yM (by omega)];exact e⟩
 refine zC (s_mlo hk hg h2 (by rw[Array.size_extract,hs];omega) (by rw[Array.size_extract,hs];omega) sl1 sl2 (zC (wpS_modify (zC (wpS_get (wpS_pure ?_))))));show Q (failedOf st).isNone _;rw[hf];have hl:(arrOf st).toList.length=n+1+(n+1):=by simpa using hs
 refine h _ ?_ hf (by show((pendingOf st).setIfInBounds 0 _).eraseIdxIfInBounds (0+1)=_;rw[hp];simp[Array.eraseIdxIfInBounds]);have x1:((arrOf st).extract (0+0) (n+1)).toList=(arrOf st).toList.take (n+1):=by simp
 have x2:((arrOf st).extract (n+1) (n+1+(n+1))).toList=(arrOf st).toList.drop (n+1):=by
  simp only[Array.toList_extract,List.extract_eq_take_drop];exact zX (by rw[aAP,hl];omega)
 have x3:(mrg ((arrOf st).toList.take (n+1)) ((arrOf st).toList.drop (n+1))).length=(arrOf st).toList.length:=by
  rw[(iH _ _).length_eq,List.take_append_drop]
 show(((mrg _ _).toArray.toList.zipIdx).foldl (λa x=>a.setIfInBounds (0+0+x.2) x.1) (arrOf st)).toList=_;rw[x1,x2,nP _ 0 _ (by rw[zN];show(mrg _ _).length<=_;rw[x3];simp)];show[]++_++List.drop (0+(mrg _ _).length) _=_;rw[x3,show List.drop (0+(arrOf st).toList.length) (arrOf st).toList=[] from List.drop_eq_nil_of_le (by omega)];simp
theorem rQ:∀{X Y:List α}(i:Nat),X.length=Y.length->(mrg X Y)[2*i]?=Y[i]?/\(mrg X Y)[2*i+1]?=X[i]?
 |[],[],i,_=>by simp[mrg]
 |x::X,y::Y,0,_=>by simp[mrg]
 |x::X,y::Y,i+1,h=>by
  rw[yJ,yJ] at h;have:=rQ i (Nat.succ.inj h);rw[show 2*(i+1)=2*i+1+1 by omega];simp only[mrg,List.getElem?_cons_succ];exact this
 |[],_::_,_,h=>nomatch h
 |_::_,[],_,h=>nomatch h
theorem s_runs{st:SortSt}(hk:kindOf st=oneType')(hg:2<=gallopOf st)(hf:failedOf st=none)(hp:pendingOf st= #[])(h2:32<=m)(h3:m<=64)(hs:(arrOf st).size=m+m)(hA:∀i,i<m->At (arrOf st) i (c-4*i))(hB:∀i,i<m->At (arrOf st) (m+i) (c-2-4*i))
  (h:∀st',(arrOf st').Perm (arrOf st)->failedOf st'=none->(∀i,i<m->At (arrOf st') (2*i) (c+2-4*m+4*i)/\At (arrOf st') (2*i+1) (c+4-4*m+4*i))->Q () st'):wpS (model prog w) A E s sortRuns' Q st:=by
 rw[sortRuns'_eq];refine zC (wpS_get ?_);dsimp only;obtain⟨r,hmr,hr⟩:∃r,minRun' (m+m) (m+m) 0=r/\r<=m:=by
  rcases Nat.lt_or_ge m 64 with z|z
  ·obtain⟨f,hf⟩:∃f,m+m=f+2:=⟨m+m-2,by omega⟩
   exact⟨m,by rw[show minRun' (m+m)=minRun' (f+1+1) by rw[hf],minRun'_succ,yK (by omega),minRun'_succ,yM (by omega)];omega,yP m⟩
  ·obtain rfl:m=64:=by omega
   exact⟨32,rfl,by decide⟩
 simp only[hs,hmr];have q1:∀i,i<m->At (mirror (arrOf st) 0 (0+m) ((0+m-0)/2)) i (c+4-4*m+4*i):=λi hi=>e8 (by omega) (by omega) (by have:=hA (m-1-i) (by omega);rw[show 0+(0+m)-1-i=m-1-i by omega];rwa[show c+4-4*(m:Int)+4*i=c-4*((m-1-i:Nat):Int) by omega]);have q2:∀i,i<m->At (mirror (arrOf st) 0 (0+m) ((0+m-0)/2)) (m+i) (c-2-4*i):=λi hi=>bH (by omega) (by omega) (hB i hi);generalize hM:mirror (arrOf st) 0 (0+m) ((0+m-0)/2)=M at q1 q2;have sM:M.size=m+m:=by rw[←hM,mirror_size,hs]
 have q3:∀i,i<m->At (mirror M m (m+m) ((m+m-m)/2)) i (c+4-4*m+4*i):=λi hi=>bH (by omega) (by omega) (q1 i hi);have q4:∀i,i<m->At (mirror M m (m+m) ((m+m-m)/2)) (m+i) (c+4-4*m-2+4*i):=λi hi=>e8 (by omega) (by omega) (by have:=q2 (m-1-i) (by omega);rw[show m+(m+m)-1-(m+i)=m+(m-1-i) by omega];rwa[show c+4-4*(m:Int)-2+4*i=c-2-4*((m-1-i:Nat):Int) by omega]);refine zC (wpS_mono (wpS_forRange (I:=λx c' st'=>(x=0/\c'=(none,0)/\st'=st)\/(x=1/\c'=(none,m)/\st'=setPending (setArr st M) #[(0,m,0)])\/(2<=x/\c'=(none,m+m)/\∃pw,st'=setPending (setArr st (mirror M m (m+m) ((m+m-m)/2))) #[(0,m,pw),(m,m,0)]))
  (Q:=λc' st'=>c'=(none,m+m)/\∃pw,st'=setPending (setArr st (mirror M m (m+m) ((m+m-m)/2))) #[(0,m,pw),(m,m,0)]) ?a ?b (.inl ⟨rfl,rfl,rfl⟩)) ?_)
 case b=>
  rintro c' st' (⟨hx,_⟩|⟨hx,_⟩|⟨_,z⟩)
  ·omega
  ·omega
  ·exact z
 case a=>
  rintro x c' st' _ hx (⟨rfl,rfl,rfl⟩|⟨rfl,rfl,rfl⟩|⟨hx,rfl,pw,rfl⟩)
  ·dsimp only
   rw[yK (by omega)];refine zC (wZ (n:=m) (f:=λi=>c-4*i) hk (by omega) (by omega) (λi hi=>by rw[zN];exact hA i hi) (λi hi=>by show c-4*((i+1:Nat):Int)<c-4*(i:Int);omega) (by rw[hs];omega) (.inr ⟨c-2-4*((0:Nat):Int),by rw[zN];exact hB 0 (by omega),by show c-4*((m-1:Nat):Int)<_;omega,by show _<c-4*((0:Nat):Int);omega⟩) ?_);dsimp only;rw[yK (Nat.not_lt.mpr hr)];refine zC (wpS_get ?_);have hb:(pendingOf (setArr st' (mirror (arrOf st') 0 (0+m) ((0+m-0)/2)))).back?=none:=by show(pendingOf st').back?=none;rw[hp];rfl
   rw[hb];refine zC (wpS_modify (wpS_pure (.inr (.inl ⟨rfl,by rw[zN],?_⟩))));show setPending (setArr st' (mirror (arrOf st') 0 (0+m) ((0+m-0)/2))) ((pendingOf st').push (0,m,0))=_;rw[hM,hp];rfl
  ·dsimp only
   rw[yK (by omega)];refine zC (wZ (n:=m) (f:=λi=>c-2-4*i) hk (by omega) (by omega) (λi hi=>q2 i hi) (λi hi=>by show c-2-4*((i+1:Nat):Int)<c-2-4*(i:Int);omega) (by show _<=M.size;omega) (.inl (by omega)) ?_);dsimp only;rw[yK (Nat.not_lt.mpr hr)];refine zC (wpS_get ?_);rw[show(pendingOf (setArr (setPending (setArr st M) #[(0,m,0)]) (mirror (arrOf (setPending (setArr st M) #[(0,m,0)])) m (m+m) ((m+m-m)/2)))).back?=some (0,m,0) from rfl];dsimp only;refine zC (wpS_mono (wpS_forRange (I:=λ_ c' st2=>c'=(none,())/\st2=setPending (setArr st (mirror M m (m+m) ((m+m-m)/2))) #[(0,m,0)]) (Q:=λc' st2=>c'=(none,())/\st2=setPending (setArr st (mirror M m (m+m) ((m+m-m)/2))) #[(0,m,0)]) ?a3 (λ_ _ z=>z) ⟨rfl,rfl⟩) ?_)
   case a3=>
    rintro x c' st2 _ _ ⟨rfl,rfl⟩;refine zC (wpS_get ?_);exact wpS_pure ⟨rfl,rfl⟩
   rintro c' st2 ⟨rfl,rfl⟩;exact zC (wpS_modify (zC (wpS_modify (wpS_pure (.inr (.inr ⟨by omega,rfl,_,rfl⟩))))))
  ·dsimp only
   rw[yM (by omega)];exact wpS_pure ⟨rfl,pw,rfl⟩
 rintro c' st' ⟨rfl,pw,rfl⟩;dsimp only;refine zC (wpS_mono (wpS_forRange (I:=λx c' st'=>(x=0/\c'=(none,())/\st'=setPending (setArr st (mirror M m (m+m) ((m+m-m)/2))) #[(0,m,pw),(m,m,0)])\/(1<=x/\c'=(none,())/\(pendingOf st').size<=1/\Q () st')) (Q:=λc' st'=>c'=(none,())/\Q () st') ?a4 ?b4 (.inl ⟨rfl,rfl,rfl⟩)) ?_)
 case b4=>
  rintro c' st' (⟨hx,_⟩|⟨_,z,_,q⟩)
  ·omega
  ·exact⟨z,q⟩
 case a4=>
  rintro x c' st' _ hx (⟨rfl,rfl,rfl⟩|⟨hx,rfl,hsz,q⟩)
  ·refine zC (wpS_get ?_)
   refine zC (s_merge (c:=c+4-4*m) hk hg hf rfl (by omega) (by show(mirror M _ _ _).size=_;rw[mirror_size,sM]) q3 q4 λst' e f p=>wpS_pure (.inr ⟨by omega,rfl,by rw[p];exact yP 1,h st' ?_ f λi hi=>?_⟩))
   ·rw[Array.perm_iff_toList_perm,e]
    refine(iH _ _).trans ?_;rw[List.take_append_drop];refine Array.perm_iff_toList_perm.mp ((mirror_perm M _ _ _).trans ?_);rw[←hM];exact mirror_perm _ _ _ _
   ·have hl:(mirror M m (m+m) ((m+m-m)/2)).toList.length=m+m:=by rw[Array.length_toList,mirror_size,sM]
    obtain⟨g1,g2⟩:=rQ (X:=(mirror M m (m+m) ((m+m-m)/2)).toList.take m) (Y:=(mirror M m (m+m) ((m+m-m)/2)).toList.drop m) i (by rw[zO,aAP,hl];omega);obtain⟨t,p,x1⟩:=q4 i hi;obtain⟨u,v,x2⟩:=q3 i hi;refine⟨⟨t,p,?_⟩,u,v,?_⟩
    ·rw[←aAM,e,g1,List.getElem?_drop,aAM,x1]
     congr 3
     omega
    ·rw[←aAM,e,g2,List.getElem?_take_of_lt hi,aAM,x2]
  ·refine zC (wpS_get ?_)
   rw[yM hsz];exact wpS_pure ⟨rfl,q⟩
 rintro c' st' ⟨rfl,q⟩;exact wpS_pure q
theorem at_K(h:At xs i n):PyProof.Rows.K xs i=n:=by
 obtain⟨t,p,e⟩:=h;unfold PyProof.Rows.K;rw[e];rfl
theorem w5(m:Nat)(c:Int):(famK m c).length=m+m:=by simp[famK]
theorem rR(h:IntsAre vs ns)(e:ns[i]?=some n):At (pairsOf vs) i n:=by
 have hl:(vs.map numOf)[i]?=some n:=by rw[h.nums,e]
 rw[zE] at hl
 cases hv:vs[i]? with
 |none=>rw[hv] at hl;cases hl
 |some v=>
  rw[hv] at hl;obtain⟨k,t,rfl⟩:=h.all v (aAA hv);refine⟨t,.int k t,?_⟩;obtain rfl:k=n:=by simpa[numOf] using hl
  rw[←aAM,pairsOf_toList,List.getElem?_zip_eq_some (z:=(.int k t,.int k t))|>.mpr ⟨hv,hv⟩]
theorem tS(hI:IntsAre vs ns)(h:longK ns=true):SortOk vs ns:=by
 intro prog w A E s a n P ho fin;simp only[longK,yU,zQ] at h;obtain⟨⟨h1,h2⟩,h3⟩:=h;generalize hc:ns.headD 0=c at h3;generalize hm:ns.length/2=m at h3;have hl:ns.length=m+m:=by rw[h3,w5]
 have hv:vs.length=m+m:=by rw[←hl,←hI.nums,yI]
 have z1:∀i,i<m->At (pairsOf vs) i (c-4*i):=λi hi=>rR hI (by rw[h3,famK,zG (by simpa using hi)];simp[hi]);have z2:∀i,i<m->At (pairsOf vs) (m+i) (c-2-4*i):=λi hi=>rR hI (by rw[h3,famK,zF (by simp)];simp[hi]);rw[list_sort_plain];have ha:a<s.heap.objs.size:=yV ho;refine gV (listItems_at ho rfl (gV (listUpdate_at ho rfl ?_ (hsz:=by rw[yW,hv,sizeLine_eq];omega))));obtain⟨e1,ho1⟩:∃e1,(s.heap.update a (Obj.mapSeq λ_=> #[])).get? a=some (seqObj "list" #[] e1):=⟨_,get?_update_seq ho λ_=> #[]⟩
 refine gV (seqEpoch_at ho1 rfl (gV (wpAny_newTuple (gV (wpAny_newList (wpAny_holding ?_))))));have ho6:(((s.heap.update a (Obj.mapSeq λ_=> #[])).push (seqObj "tuple" vs.toArray 0)).push (seqObj "list" #[] 0)).get? a=some (seqObj "list" #[] e1):=by
  rw[Heap.get?_push_ne _ _ _ (by have:=size_push' (s.heap.update a (Obj.mapSeq λ_=> #[])) (seqObj "tuple" vs.toArray 0);rw[this,Heap.size_update];exact zP (Nat.lt_succ_of_lt ha)),Heap.get?_push_ne _ _ _ (by rw[Heap.size_update];exact zP ha),ho1]
 show wpAny (model prog w) A _ P E {s with heap:=((s.heap.update a (Obj.mapSeq λ_=> #[])).push (seqObj "tuple" vs.toArray 0)).push (seqObj "list" #[] 0)};dsimp only;have h2':¬vs.toArray.size<2:=by rw[yW];omega
 rw[yK h2',yK h2'];obtain⟨v₁,v₂,rest,e⟩:∃v₁ v₂ rest,vs=v₁::v₂::rest:=by
  match vs,hv with
  |v₁::v₂::rest,_=>exact⟨v₁,v₂,rest,rfl⟩
  |[],hv=>simp at hv;omega
  |[_],hv=>simp at hv;omega
 have kk:keyKind' vs.toArray=pure oneType':=by rw[e] at hI⊢;exact keyKind_ints hI
 rw[kk];refine gV (yN (gV (z8 (s_runs (st:=SortSt.mk' oneType' (pairsOf vs) #[] 7 none) (m:=m) (c:=c) (Q:=λ_ st'=>(arrOf st').Perm (pairsOf vs)/\failedOf st'=none/\SortedTo (arrOf st') (pairsOf vs).size) rfl (show 2<=7 by decide) rfl rfl (by omega) (by omega) (by show(pairsOf vs).size=_;rw[pairsOf_size,hv]) z1 z2 λst' p f q=>⟨p,f,?_⟩) ?_ λ_ _ e=>e)))
 ·have kv:∀j,j<m+m->PyProof.Rows.K (arrOf st') j=c+2-4*m+2*j:=λj hj=>by
   obtain⟨x1,x2⟩:=q (j/2) (by omega);rcases Nat.mod_two_eq_zero_or_one j with o|o
   ·have y:=at_K x1
    rw[show 2*(j/2)=j by omega] at y;rw[y];omega
   ·have y:=at_K x2
    rw[show 2*(j/2)+1=j by omega] at y;rw[y];omega
  intro i j hij hj;rw[pairsOf_size,hv] at hj;rw[kv i (by omega),kv j hj];omega
 ·rintro⟨⟨⟩,st'⟩ s' ⟨rfl,hp,hf,hs⟩
  dsimp only;obtain⟨ns',g1,g2,g3⟩:=sorted_out hI hp hs;refine gV (seqEpoch_at ho6 rfl (gV (listUpdate_at ho6 rfl ?_ (hsz2:=by refine zB (Nat.le_of_eq ((Array.size_map ..).trans (hp.size_eq.trans ((pairsOf_size _).trans hv)))) ?_;rw[sizeLine_eq];omega))));rw[hf];simp only[bne_self_eq_false,yH,yX];exact yN (fin _ ns' g1 g2 g3)
end
theorem bR(h:Pg.fns[f]?=some ⟨np,ns,[.ret (.op1 .neg (.cst .non))]⟩)(j:Nat)(ds:List D):Phi Pg j f ds=.bad:=by
 cases j with
 |zero=>rfl
 |succ j=>simp only[Phi,h];split<;>rfl
end L2.Snd
namespace Py
theorem bK(g:D->D):∀(xs:List D),(∀x∈xs,f x=.ok (some (g x)))->compM f xs=.ok (xs.map g)
 |[],_=>rfl
 |x::r,h=>by
  rw[compM,h x yZ,bK g r λy hy=>h y (yR _ hy)];rfl
theorem bS(p:D->Bool)(g:D->D):∀(xs:List D),(∀x∈xs,f x=.ok (if p x then some (g x) else none))->compM f xs=.ok ((xs.filter p).map g)
 |[],_=>rfl
 |x::r,h=>by
  rw[compM,h x yZ,bS p g r λy hy=>h y (yR _ hy)];cases e:p x<;>simp[e]
theorem j8:∀(xs:List D)(δ:Nat->Sto),(∀i (h:i<xs.length),f xs[i] (δ i)=.nx (δ (i+1)))->forM f xs (δ 0)=.nx (δ xs.length)
 |[],δ,_=>rfl
 |x::r,δ,h=>by
  rw[Py.forM.eq_2,show f x (δ 0)=.nx (δ 1) from h 0 (by simp)];exact j8 r (λi=>δ (i+1)) λi hi=>h (i+1) (by simpa using hi)
theorem w6(n:Nat)(δ:Nat->Sto)(h:∀i,i<n->f (.int i) (δ i)=.nx (δ (i+1))):forM f (rangeD 0 n) (δ 0)=.nx (δ n):=by
 have:=j8 (rangeD 0 n) δ (f:=f) λi hi=>by
  have hi':i<n:=by simpa[rangeD] using hi
  have e:(rangeD 0 n)[i]=.int i:=by simp[rangeD]
  rw[e];exact h i hi'
 rwa[show(rangeD 0 n).length=n by simp[rangeD]] at this
theorem d9:∀(m n:Nat)(δ:Nat->Sto),m<n->(∀i,i<m->c (fz (δ i))=.ok true/\b (fz (δ i))=.nx (δ (i+1)))->c (fz (δ m))=.ok false->whlM c fz b n (δ 0)=.nx (fz (δ m))
 |0,n+1,δ,_,_,he=>by rw[whlM,he]
 |m+1,n+1,δ,hm,h,he=>by
  obtain⟨h1,h2⟩:=h 0 (by omega);rw[whlM,h1];dsimp only;rw[h2];exact d9 m n (λi=>δ (i+1)) (by omega) (λi hi=>h (i+1) (by omega)) he
noncomputable def intL(xs:List Int):List D:=xs.map .int
noncomputable def rowD(r:List Int):D:=.tup (intL r)
theorem c9(lo:Int)(n:Nat):(rangeD lo n).length=n:=by simp[rangeD]
theorem aM{n:Nat}(h:n<=1000):itemsD .rng [.int n]=.ok (rangeD 0 n):=by
 have h1:(-(LIM:Int))<=(n:Int)/\(n:Int)<=(LIM:Int):=by
  have:(LIM:Int)=100000:=rfl;omega
 show((if-(LIM:Int)<=(n:Int)/\(n:Int)<=(LIM:Int) then R.ok (rangeD 0 (n:Int).toNat) else R.bad).bind λxs=>if xs.length<=LIM then R.ok xs else R.bad)=_;rw[yM h1];simp only[R.bind_ok,aAH,c9];rw[yM (show n<=LIM from zB h (by decide))]
theorem aT(h:xs.length<=1000):itemsD .seq [.lst xs]=.ok xs:=by
 show(if xs.length<=LIM then R.ok xs else R.bad)=_;rw[yM (show xs.length<=LIM from zB h (by decide))]
theorem cI(h:xs.length<=1000):itemsD .seq [.tup xs]=.ok xs:=by
 show(if xs.length<=LIM then R.ok xs else R.bad)=_;rw[yM (show xs.length<=LIM from zB h (by decide))]
theorem at_nat{α:Type}{xs:List α}{i:Nat}(h:i<xs.length):atD xs (i:Int)=some xs[i]:=by
 have h1:(0:Int)<=(i:Int):=by omega
 have h2:(i:Int)<(xs.length:Int):=by omega
 simp[atD,ixD,h1,h2,h]
theorem lF(h:i<n):ixD n (i:Int)=some i:=by
 have h1:(0:Int)<=(i:Int):=by omega
 have h2:(i:Int)<(n:Int):=by omega
 simp[ixD,h1,h2]
theorem rS(xs:List α)(a b:Nat):cut xs (some (a:Int)) (some (b:Int))=(xs.drop a).take (b-a):=by
 have h1:¬((a:Int)<0):=by omega
 have h2:¬((b:Int)<0):=by omega
 simp only[cut,sIx,yK h1,yK h2,aAH];by_cases ha:a<=xs.length
 ·rw[Nat.min_eq_left ha]
  by_cases hb:b<=xs.length
  ·rw[Nat.min_eq_left hb]
  ·rw[Nat.min_eq_right (by omega)]
   rw[zX (by rw[aAP];omega),zX (by rw[aAP];omega)]
 ·have e1:xs.drop a=[]:=List.drop_of_length_le (by omega)
  have e2:xs.drop (min a xs.length)=[]:=List.drop_of_length_le (by omega);rw[e1,e2];simp
theorem cut_from(xs:List α)(a:Nat):cut xs (some (a:Int)) none=xs.drop a:=by
 have h1:¬((a:Int)<0):=by omega
 simp only[cut,sIx,yK h1,aAH];by_cases ha:a<=xs.length
 ·rw[Nat.min_eq_left ha,zX (by rw[aAP];omega)]
 ·rw[Nat.min_eq_right (by omega),List.drop_of_length_le (yP _),List.drop_of_length_le (by omega)]
  simp
theorem xA(a b:List D)(h:a.length+b.length<=LIM):op2 .add (.lst a) (.lst b)=.ok (.lst (a++b)):=yM h
theorem fM(i j:Int)(h:(-(2^64)<i/\i<2^64)\/(-(2^64)<j/\j<2^64)):op2 .mul (.int i) (.int j)=.ok (.int (i*j)):=yM h
theorem nQ(i j:Int)(h:0<j):op2 .mod (.int i) (.int j)=.ok (.int (i%j)):=yM h
theorem xB(i j:Int)(h:0<j/\j<1073741824):op2 .fdiv (.int i) (.int j)=.ok (.int (i/j)):=yM h
theorem o_atL(xs:List D)(i:Int):op2 .at (.lst xs) (.int i)=ofO (atD xs i):=rfl
theorem o_atT(xs:List D)(i:Int):op2 .at (.tup xs) (.int i)=ofO (atD xs i):=rfl
theorem o_lenL(xs:List D):op1 .len (.lst xs)=.ok (.int xs.length):=rfl
theorem pP(xs:List D):op1 .len (.tup xs)=.ok (.int xs.length):=rfl
theorem o_isTt(xs:List D)(h:plns 999 xs=true):op1 .isTup (.tup xs)=.ok (.bl true):=by
 show(if pln 1000 (.tup xs) then _ else _)=_;rw[yM (by simpa[pln] using h)]
theorem o_isLl(xs:List D)(h:plns 999 xs=true):op1 .isLst (.lst xs)=.ok (.bl true):=by
 show(if pln 1000 (.lst xs) then _ else _)=_;rw[yM (by simpa[pln] using h)]
theorem nR(d:D):ofO (some d)=.ok d:=rfl
theorem of_ok(a:α)(δ:Sto)(f:α->Out):Out.of (.ok a) δ f=f a:=rfl
theorem of_exc(c:Nat)(δ:Sto)(f:α->Out):Out.of (.exc c:R α) δ f=.xc c δ:=rfl
theorem aS(a:α)(f:α->R β):(R.ok a).bind f=f a:=rfl
theorem Za(b:Bool):truth (.bl b)=.ok b:=rfl
theorem Zb(xs:List D):truth (.lst xs)=.ok (!xs.isEmpty):=rfl
theorem Zc(a:α)(δ:Sto)(f:α->Out):Out.of (.ok a) δ f=f a:=rfl
theorem Zd(c:Nat)(δ:Sto)(f:α->Out):Out.of (.exc c:R α) δ f=.xc c δ:=rfl
theorem Ze(d:D):ofO (some d)=.ok d:=rfl
theorem Zf(a:α)(f:α->R β):(R.ok a).bind f=f a:=rfl
theorem Zg(c:Nat)(f:α->R β):(R.exc c:R α).bind f=.exc c:=rfl
theorem Zh(a:α):(R.ok a).quiet=.ok a:=rfl
theorem Zi{α:Type}{x:α}{xs:List α}{a:α}:(x::xs).set 0 a=a::xs:=rfl
theorem Zj{α:Type}{x:α}{xs:List α}{a:α}:(x::xs).set (n+1) a=x::xs.set n a:=rfl
theorem Zk{α:Type}{x:α}{xs:List α}:(x::xs)[0]?=some x:=rfl
theorem Zl{α:Type}{x:α}{xs:List α}:(x::xs)[i+1]?=xs[i]?:=rfl
theorem Zm{α β:Type}{f:α->β}{a:α}{l:List α}:(a::l).map f=f a::l.map f:=rfl
theorem Zn{α β:Type}{f:α->β}:([]:List α).map f=[]:=rfl
theorem Zo{α:Type}(l:List α):[]++l=l:=rfl
theorem Zp{α:Type}{a:α}{l r:List α}:(a::l)++r=a::(l++r):=rfl
theorem Zq{α:Type}(l:List α):l++[]=l:=aAQ l
theorem Zr(b:Bool):(b&&true)=b:=Bool.and_true b
theorem Zs(b:Bool):(b&&false)=false:=Bool.and_false b
theorem Zt(b:Bool):(true&&b)=b:=rfl
theorem Zu(b:Bool):(false&&b)=false:=rfl
theorem Zv:(!true)=false:=rfl
theorem Zw:(!false)=true:=rfl
theorem Zx{α:Type}{a b:α}:(some a).getD b=a:=rfl
theorem ZA(i j:Int):op2 .add (.int i) (.int j)=.ok (.int (i+j)):=rfl
theorem ZB(i j:Int):op2 .sub (.int i) (.int j)=.ok (.int (i-j)):=rfl
theorem ZC(i j:Int):op2 .lt (.int i) (.int j)=.ok (.bl (decide (i<j))):=rfl
theorem ZD(i j:Int):op2 .le (.int i) (.int j)=.ok (.bl (decide (i<=j))):=rfl
theorem ZE(i j:Int):op2 .gt (.int i) (.int j)=.ok (.bl (decide (j<i))):=rfl
theorem ZF(i j:Int):op2 .ge (.int i) (.int j)=.ok (.bl (decide (j<=i))):=rfl
theorem ZG(i j:Int):op2 .eq (.int i) (.int j)=.ok (.bl (i==j)):=rfl
theorem ZH(i j:Int):op2 .ne (.int i) (.int j)=.ok (.bl (!(i==j))):=rfl
theorem ZI(xs:List D)(i:Int):op2 .at (.lst xs) (.int i)=ofO (atD xs i):=rfl
theorem ZJ(xs:List D)(i:Int):op2 .at (.tup xs) (.int i)=ofO (atD xs i):=rfl
theorem ZK(xs:List Int)(i:Int):op2 .at (.scr xs) (.int i)=ofO ((atD xs i).map .int):=rfl
theorem ZL(xs:List D):op1 .len (.lst xs)=.ok (.int xs.length):=rfl
theorem ZM(xs:List D):op1 .len (.tup xs)=.ok (.int xs.length):=rfl
theorem ZN(xs:List Int):op1 .len (.scr xs)=.ok (.int xs.length):=rfl
theorem ZO(i:Int):op1 .neg (.int i)=.ok (.int (-i)):=rfl
theorem ZP(xs:List D):op1 .tuple (.lst xs)=.ok (.tup xs):=rfl
theorem ZQ(xs:List D):op1 .tuple (.tup xs)=.ok (.tup xs):=rfl
theorem ZR(xs:List D):op1 .list (.lst xs)=.ok (.lst xs):=rfl
theorem ZS(xs:List D):op1 .list (.tup xs)=.ok (.lst xs):=rfl
theorem ZT(i:Int):op1 .isInt (.int i)=.ok (.bl true):=rfl
theorem ZU(i:Int):op1 .isBool (.int i)=.ok (.bl false):=rfl
noncomputable def Bcell:List Sm:=[(.ite (.leaf (.op2 .lt (.var 1) (.op1 .len (.var 0)))) [(.ret (.op2 .at (.var 0) (.var 1)))] []),(.ret (.cst (.int 0)))]
noncomputable def cellV(ns:List Int)(k:Nat):Int:=ns.getD k 0
section
variable{Φ:Nat->List D->R D}{G:List D}{n:Nat}
theorem xC(ns:List Int)(k:Nat):xecs Φ G n Bcell [some (false,.scr ns),some (false,.int k)]=.rt (.int (cellV ns k)):=by
 by_cases h:k<ns.length
 ·have e:decide ((k:Int)<(ns.length:Int))=true:=zT (by omega)
  simp only[Bcell,xecs,xec,evT,ev,frz,leaksT,leaks,rdR,rdV,Za,Zc,Ze,Zf,Zk,Zl,Zq,yT,ZC,ZK,ZN,e,at_nat h,Option.map_some];simp[cellV,h]
 ·have e:decide ((k:Int)<(ns.length:Int))=false:=zM (by omega)
  have e2:cellV ns k=0:=by simp[cellV,aAL (by omega:ns.length<=k)]
  simp only[Bcell,xecs,xec,evT,ev,frz,leaksT,leaks,rdR,rdV,Za,Zc,Zf,Zk,Zl,Zq,yT,yX,yH,ZC,ZK,ZN,e,e2]
noncomputable def pickV(ns:List Int)(k:Nat):Int:=if k<ns.length then cellV ns k else(cellV ns 0+7*k+3)*48271%2147483647/13
noncomputable def Bpick(c:Nat):List Sm:=[(.ite (.leaf (.op2 .lt (.var 1) (.op1 .len (.var 0)))) [(.ret (.op2 .at (.var 0) (.var 1)))] []),(.ret (.op2 .fdiv (.op2 .mod (.op2 .mul (.op2 .add (.op2 .add (.call c [(.var 0),(.cst (.int 0))]) (.op2 .mul (.cst (.int 7)) (.var 1))) (.cst (.int 3))) (.cst (.int 48271))) (.cst (.int 2147483647))) (.cst (.int 13))))]
theorem pick_run(ns:List Int)(k:Nat)(hc:Φ c [.scr ns,.int 0]=.ok (.int (cellV ns 0))):xecs Φ G n (Bpick c) [some (false,.scr ns),some (false,.int k)]=.rt (.int (pickV ns k)):=by
 by_cases h:k<ns.length
 ·have e:decide ((k:Int)<(ns.length:Int))=true:=zT (by omega)
  simp only[Bpick,xecs,xec,evT,ev,frz,leaksT,leaks,rdR,rdV,Za,Zc,Ze,Zf,Zk,Zl,Zq,yT,ZC,ZK,ZN,e,at_nat h,Option.map_some];simp[pickV,cellV,h]
 ·have e:decide ((k:Int)<(ns.length:Int))=false:=zM (by omega)
  have m1:∀x:Int,op2 .mul (.int 7) (.int x)=.ok (.int (7*x)):=λx=>fM _ _ (.inl (by decide));have m2:∀x:Int,op2 .mul (.int x) (.int 48271)=.ok (.int (x*48271)):=λx=>fM _ _ (.inr (by decide));have m3:∀x:Int,op2 .mod (.int x) (.int 2147483647)=.ok (.int (x%2147483647)):=λx=>nQ _ _ (by decide);have m4:∀x:Int,op2 .fdiv (.int x) (.int 13)=.ok (.int (x/13)):=λx=>xB _ _ (by decide);simp only[Bpick,xecs,xec,evT,ev,evs,frz,frz1,leaksT,leaks,leakss,rdR,rdV,Za,Zc,Zf,Zk,Zl,Zq,yT,yX,yH,ZA,ZC,ZK,ZN,e,hc,m1,m2,m3,m4,pickV,yK h]
end
noncomputable def natL(xs:List Nat):List D:=xs.map λk=>.int (k:Nat)
structure Pr where
 owner:List Int
 left:List Nat
 name:Nat
noncomputable def atV(pk:Nat->Int)(s:Pr):Nat:=(1+pk s.name%((s.left.length:Int)-1)).toNat
noncomputable def stepP(pk:Nat->Int)(s:Pr):Pr:=
 ⟨(s.owner.set (s.left.getD 0 0) s.name).set (s.left.getD (atV pk s) 0) s.name,(s.left.drop 1).take (atV pk s-1)++s.left.drop (atV pk s+1),s.name+1⟩
noncomputable def iterP(pk:Nat->Int)(s:Pr):Nat->Pr
 |0=>s
 |i+1=>stepP pk (iterP pk s i)
noncomputable def runP(pk:Nat->Int)(s:Pr):Pr:=iterP pk s (s.left.length/2)
theorem pQ(h:1<s.left.length):1<=atV pk s/\atV pk s<s.left.length/\(atV pk s:Int)=1+pk s.name%((s.left.length:Int)-1):=by
 have h1:(0:Int)<(s.left.length:Int)-1:=by omega
 have h2:=Int.emod_nonneg (pk s.name) (Int.ne_of_gt h1);have h3:=Int.emod_lt_of_pos (pk s.name) h1;unfold atV;omega
theorem tT(h:1<s.left.length):(stepP pk s).left.length=s.left.length-2:=by
 obtain⟨h1,h2,_⟩:=pQ (pk:=pk) h;simp only[stepP,yY,zO,aAP];omega
theorem a9:∀i,2*i<=s.left.length->(iterP pk s i).left.length=s.left.length-2*i/\(iterP pk s i).name=s.name+i
 |0,_=>⟨by simp[iterP],rfl⟩
 |i+1,h=>by
  obtain⟨h1,h2⟩:=a9 (pk:=pk) (s:=s) i (by omega);refine⟨?_,?_⟩
  ·rw[iterP,tT (by omega),h1];omega
  ·show(iterP pk s i).name+1=_
   rw[h2];omega
noncomputable def InP(s:Pr):Prop:=∀i∈s.left,i<s.owner.length
theorem xD(h:InP s):InP (stepP pk s):=by
 intro i hi;simp only[stepP,List.length_set] at hi⊢;rcases List.mem_append.mp hi with z|z
 ·exact h i (List.mem_of_mem_drop (List.mem_of_mem_take z))
 ·exact h i (List.mem_of_mem_drop z)
theorem nS(h:InP s):∀i,InP (iterP pk s i)
 |0=>h
 |i+1=>xD (nS h i)
theorem iI:∀i,(iterP pk s i).owner.length=s.owner.length
 |0=>rfl
 |i+1=>by
  show((_:List Int).set _ _).length=_;rw[List.length_set,List.length_set,iI i]
noncomputable def Bturn(p:Nat):List Sm:=[(.asg 8 (.op2 .add (.cst (.int 1)) (.op2 .mod (.call p [(.var 0),(.op2 .add (.var 1) (.var 7))]) (.op2 .sub (.op1 .len (.var 6)) (.cst (.int 1)))))),(.put 4 (.op2 .at (.var 6) (.cst (.int 0))) (.var 7)),(.put 4 (.op2 .at (.var 6) (.var 8)) (.var 7)),(.asg 6 (.op2 .add (.slc (.var 6) (some (.cst (.int 1))) (some (.var 8))) (.slc (.var 6) (some (.op2 .add (.var 8) (.cst (.int 1)))) none))),(.asg 7 (.op2 .add (.var 7) (.cst (.int 1))))]
section
variable{Φ:Nat->List D->R D}{G:List D}{n:Nat}
theorem j9(h:i<xs.length):(natL xs)[i]'(by simpa[natL] using h)=.int (xs.getD i 0:Nat):=by
 simp[natL,h]
theorem nU{xs:List Nat}(h:i<xs.length):xs.getD i 0∈xs:=by
 simp[List.getD,yS h]
theorem xE(s:Pr)(hp:Φ p [.scr ns,.int (start+(s.name:Nat))]=.ok (.int (pk s.name)))(hl:1<s.left.length)(hll:s.left.length<=1000)(hin:InP s):
  xecs Φ G n (Bturn p) [some (false,.scr ns),some (false,.int start),some (false,.int many),c3,some (true,.lst (intL s.owner)),c5,some (true,.lst (natL s.left)),some (false,.int (s.name:Nat)),c8]=
  .nx [some (false,.scr ns),some (false,.int start),some (false,.int many),c3,some (true,.lst (intL (stepP pk s).owner)),c5,some (true,.lst (natL (stepP pk s).left)),some (false,.int ((stepP pk s).name:Nat)),some (false,.int (atV pk s:Nat))]:=by
 obtain⟨h1,h2,h3⟩:=pQ (pk:=pk) hl;have hlen:(natL s.left).length=s.left.length:=by simp[natL]
 have e1:(0:Int)<(s.left.length:Int)-1:=by omega
 have e2:atD (natL s.left) 0=some (.int (s.left.getD 0 0:Nat)):=by
  have:=at_nat (xs:=natL s.left) (i:=0) (by rw[hlen];omega);rw[j9 (by omega)] at this;exact this
 have e3:atD (natL s.left) (atV pk s:Nat)=some (.int (s.left.getD (atV pk s) 0:Nat)):=by
  have:=at_nat (xs:=natL s.left) (i:=atV pk s) (by rw[hlen];omega);rw[j9 (by omega)] at this;exact this
 have m1:s.left.getD 0 0<s.owner.length:=hin _ (nU (by omega));have m2:s.left.getD (atV pk s) 0<s.owner.length:=hin _ (nU (by omega));have i1:ixD (intL s.owner).length (s.left.getD 0 0:Nat)=some (s.left.getD 0 0):=lF (by simpa[intL] using m1);have i2:ixD ((intL s.owner).set (s.left.getD 0 0) (.int s.name)).length (s.left.getD (atV pk s) 0:Nat)=some (s.left.getD (atV pk s) 0):=lF (by simpa[intL] using m2);have c1:cut (natL s.left) (some 1) (some (atV pk s:Nat))=natL ((s.left.drop 1).take (atV pk s-1)):=by
  have:=rS (natL s.left) 1 (atV pk s);simp only[natL,List.map_take,List.map_drop] at this⊢;exact this
 have c2:cut (natL s.left) (some ((atV pk s:Nat)+1)) none=natL (s.left.drop (atV pk s+1)):=by
  have:=cut_from (natL s.left) (atV pk s+1);simp only[natL,List.map_drop] at this⊢;exact this
 have l1:(natL ((s.left.drop 1).take (atV pk s-1))).length+(natL (s.left.drop (atV pk s+1))).length<=LIM:=by
  simp only[natL,yI,zO,aAP];have:LIM=100000:=rfl;omega
 simp only[Bturn,xecs,xec,ev,evs,evP,frz,frz1,leaks,leakss,leaksP,rdR,rdV,Zc,asI,isOwn,frsh,slc,Ze,Zf,Zi,Zj,Zk,Zl,Zo,Zq,yT,yX,yH,Zt,ZA,ZB,ZI,ZL,hp,hlen,nQ _ _ e1,h3.symm,ownL,putD,e2,e3,i1,i2,c1,c2,xA _ _ l1];simp[stepP,intL,natL,List.map_set]
end
section
variable{Φ:Nat->List D->R D}{G:List D}{n:Nat}
noncomputable def pairD(x:Nat×Nat):D:=.tup [.int (x.1:Nat),.int (x.2:Nat)]
noncomputable def fixT(fx:List (Nat×Nat))(o:List Int):Nat->List Int
 |0=>o
 |i+1=>((fixT fx o i).set (fx.getD i (0,0)).1 i).set (fx.getD i (0,0)).2 i
noncomputable def freeP(o:List Int):List Nat:=(List.range o.length).filter λk=>decide (o.getD k 0<0)
noncomputable def startP(m:Nat)(fx:List (Nat×Nat)):Pr:=⟨fixT fx (List.replicate (4*m) (-1)) fx.length,freeP (fixT fx (List.replicate (4*m) (-1)) fx.length),fx.length⟩
noncomputable def chunks(m:Nat)(o:List Int):List (List Int):=(List.range m).map λk=>(o.drop (4*k)).take 4
noncomputable def Brows(p:Nat):List Sm:=[(.asg 4 (.comp .rng [(.op2 .mul (.cst (.int 4)) (.var 2))] [] 1 none (.op1 .neg (.cst (.int 1))))),(.loop .rng [(.op1 .len (.var 3))] [5] [(.put 4 (.op2 .at (.op2 .at (.var 3) (.var 5)) (.cst (.int 0))) (.var 5)),(.put 4 (.op2 .at (.op2 .at (.var 3) (.var 5)) (.cst (.int 1))) (.var 5))]),(.asg 6 (.comp .rng [(.op2 .mul (.cst (.int 4)) (.var 2))] [4] 1 (some (.leaf (.op2 .lt (.op2 .at (.var 1) (.var 0)) (.cst (.int 0))))) (.var 0))),(.asg 7 (.op1 .len (.var 3))),(.whl (.leaf (.op2 .gt (.op1 .len (.var 6)) (.cst (.int 1)))) (Bturn p)),(.ret (.comp .rng [(.var 2)] [4] 1 none (.op1 .tuple (.slc (.var 1) (some (.op2 .mul (.cst (.int 4)) (.var 0))) (some (.op2 .add (.op2 .mul (.cst (.int 4)) (.var 0)) (.cst (.int 4))))))))]
theorem mul4(x:Int):op2 .mul (.int 4) (.int x)=.ok (.int (4*x)):=fM _ _ (.inl (by decide))
theorem mul2(x:Int):op2 .mul (.int 2) (.int x)=.ok (.int (2*x)):=fM _ _ (.inl (by decide))
theorem bT{x:Int}(e:x=(m:Nat))(h:m<=1000):itemsD .rng [.int x]=.ok (rangeD 0 m):=by rw[e];exact aM h
theorem cB(m:Nat):rangeD 0 m=natL (List.range m):=by simp[rangeD,natL]
theorem eA(fx:List (Nat×Nat))(o:List Int):∀i,(fixT fx o i).length=o.length
 |0=>rfl
 |i+1=>by simp[fixT,eA fx o i]
noncomputable def lastV(c:Slot):Nat->Slot
 |0=>c
 |i+1=>some (false,.int (i:Nat))
noncomputable def lastA(pk:Nat->Int)(s:Pr):Nat->Slot
 |0=>none
 |i+1=>some (false,.int (atV pk (iterP pk s i):Nat))
theorem rows1(hm:m<=100):
  xec Φ G n (.asg 4 (.comp .rng [(.op2 .mul (.cst (.int 4)) (.var 2))] [] 1 none (.op1 .neg (.cst (.int 1))))) [some (false,.scr ns),some (false,.int start),some (false,.int (m:Nat)),c3,c4,c5,c6,c7,c8]=
  .nx [some (false,.scr ns),some (false,.int start),some (false,.int (m:Nat)),c3,some (true,.lst (intL (List.replicate (4*m) (-1)))),c5,c6,c7,c8]:=by
 have h1:itemsD .rng [.int (4*(m:Nat))]=.ok (rangeD 0 (4*m)):=bT (by omega) (by omega);simp only[xec,ev,evs,evO,frz,leaks,leakss,leaksO,rdR,rdV,spread,isOwn,frsh,Zf,Zi,Zj,Zk,Zl,Zq,yT,Zt,ZO,mul4,h1,List.filterMap_nil];rw[bK (λ_=>.int (-1)) _ λx hx=>rfl];simp only[Zc,Zf,Zh]
 congr 1
 simp[rangeD,intL,List.map_const',Function.comp_def]
theorem rows2(hl:fx.length<=1000)(hf:∀x∈fx,x.1<o.length/\x.2<o.length):
  xec Φ G n (.loop .rng [(.op1 .len (.var 3))] [5] [(.put 4 (.op2 .at (.op2 .at (.var 3) (.var 5)) (.cst (.int 0))) (.var 5)),(.put 4 (.op2 .at (.op2 .at (.var 3) (.var 5)) (.cst (.int 1))) (.var 5))]) [some (false,.scr ns),some (false,.int start),some (false,.int (m:Nat)),some (false,.lst (fx.map pairD)),some (true,.lst (intL o)),c5,c6,c7,c8]=
  .nx [some (false,.scr ns),some (false,.int start),some (false,.int (m:Nat)),some (false,.lst (fx.map pairD)),some (true,.lst (intL (fixT fx o fx.length))),lastV c5 fx.length,c6,c7,c8]:=by
 have h1:itemsD .rng [.int ((fx.map pairD).length:Nat)]=.ok (rangeD 0 fx.length):=by rw[yI];exact aM hl
 simp only[xec,xecs,xec,ev,evs,frz,frz1,leaks,leakss,rdR,rdV,Zc,spread,Zf,Zh,Zk,Zl,Zq,yT,yX,yH,ZL,h1];refine w6 fx.length (λi=>[some (false,.scr ns),some (false,.int start),some (false,.int (m:Nat)),some (false,.lst (fx.map pairD)),some (true,.lst (intL (fixT fx o i))),lastV c5 i,c6,c7,c8]) λi hi=>?_;have g1:atD (fx.map pairD) (i:Nat)=some (pairD (fx.getD i (0,0))):=by
  rw[at_nat (by simpa using hi)];simp[hi]
 obtain⟨b1,b2⟩:=hf (fx.getD i (0,0)) (by simp[List.getD,yS hi]);have i1:ixD (intL (fixT fx o i)).length ((fx.getD i (0,0)).1:Nat)=some (fx.getD i (0,0)).1:=lF (by simpa[intL,eA] using b1);have i2:ixD ((intL (fixT fx o i)).set (fx.getD i (0,0)).1 (.int (i:Nat))).length ((fx.getD i (0,0)).2:Nat)=some (fx.getD i (0,0)).2:=lF (by simpa[intL,eA] using b2);have a0:∀x:Nat×Nat,atD [D.int (x.1:Nat),D.int (x.2:Nat)] 0=some (.int (x.1:Nat)):=λ_=>rfl;have a1:∀x:Nat×Nat,atD [D.int (x.1:Nat),D.int (x.2:Nat)] 1=some (.int (x.2:Nat)):=λ_=>rfl;simp only[Zc,Py.sets,Ze,Zf,Zi,Zj,Zk,Zl,yT,ZI,ZJ,ownL,putD,g1,pairD,a0,a1,i1,i2,yJ,y7,zN];simp[fixT,lastV,intL,List.map_set]
theorem rows3(hm:m<=100)(ho:o.length=4*m):
  xec Φ G n (.asg 6 (.comp .rng [(.op2 .mul (.cst (.int 4)) (.var 2))] [4] 1 (some (.leaf (.op2 .lt (.op2 .at (.var 1) (.var 0)) (.cst (.int 0))))) (.var 0))) [some (false,.scr ns),some (false,.int start),some (false,.int (m:Nat)),c3,some (true,.lst (intL o)),c5,c6,c7,c8]=
  .nx [some (false,.scr ns),some (false,.int start),some (false,.int (m:Nat)),c3,some (true,.lst (intL o)),c5,some (true,.lst (natL (freeP o))),c7,c8]:=by
 have h1:itemsD .rng [.int (4*(m:Nat))]=.ok (rangeD 0 (4*m)):=bT (by omega) (by omega);simp only[xec,evT,ev,evs,evO,frz,leaksT,leaks,leakss,leaksO,rdR,rdV,spread,capOf,isOwn,frsh,Zf,Zi,Zj,Zk,Zl,Zm,Zn,Zo,Zp,Zq,yT,yX,yH,Zt,Zx,mul4,h1,List.filterMap_nil,List.filterMap_cons,Nat.reduceLT,aAD];rw[cB];have key:∀k:Nat,k<4*m->atD (intL o) (k:Nat)=some (.int (o.getD k 0)):=λk hk=>by
  rw[at_nat (by simpa[intL,ho] using hk)];simp[intL,ho,hk]
 rw[bS (λx=>match x with|.int k=>decide (o.getD k.toNat 0<0)|_=>false) (λx=>x) _ λx hx=>?_]
 ·simp only[Zc,Zf,Zh,freeP,ho]
  congr 1
  simp[natL,List.filter_map,Function.comp_def]
 ·obtain⟨k,hk,rfl⟩:=List.mem_map.mp hx
  have hk':k<4*m:=List.mem_range.mp hk;simp only[Za,Ze,Zf,ZC,ZI,key k hk',aAH];by_cases hc:o.getD k 0<0
  ·simp only[hc,decide_true,yT]
  ·simp only[hc,aAT,yX,yH]
theorem rows6(hm:m<=100):
  xec Φ G n (.ret (.comp .rng [(.var 2)] [4] 1 none (.op1 .tuple (.slc (.var 1) (some (.op2 .mul (.cst (.int 4)) (.var 0))) (some (.op2 .add (.op2 .mul (.cst (.int 4)) (.var 0)) (.cst (.int 4)))))))) [some (false,.scr ns),some (false,.int start),some (false,.int (m:Nat)),c3,some (true,.lst (intL o)),c5,c6,c7,c8]=
  .rt (.lst ((chunks m o).map rowD)):=by
 have h1:itemsD .rng [.int (m:Nat)]=.ok (rangeD 0 m):=aM (by omega);simp only[xec,ev,evs,evP,evO,frz,leaks,leakss,leaksP,leaksO,rdR,rdV,asI,spread,capOf,slc,Zf,Zk,Zl,Zm,Zn,Zo,Zp,Zq,yT,Zx,h1,List.filterMap_nil,List.filterMap_cons];rw[cB,bK (λx=>match x with|.int k=>rowD ((o.drop (4*k.toNat)).take 4)|_=>.non) _ λx hx=>?_]
 ·simp only[Zc,Zf,Zh]
  congr 1
  simp[natL,chunks,Function.comp_def]
 ·obtain⟨k,hk,rfl⟩:=List.mem_map.mp hx
  have c:cut (intL o) (some (4*(k:Nat))) (some (4*(k:Nat)+4))=intL ((o.drop (4*k)).take 4):=by
   have:=rS (intL o) (4*k) (4*k+4);simp only[intL,List.map_take,List.map_drop] at this⊢;rw[show 4*k+4-4*k=4 by omega] at this
   push_cast at this
   exact this
  simp only[Zf,ZA,ZP,mul4,c,rowD,aAH]
theorem nV(hm:m<=100)(hl:fx.length<=1000)(hf:∀x∈fx,x.1<4*m/\x.2<4*m)(hp:∀k,Φ p [.scr ns,.int (k:Nat)]=.ok (.int (pickV ns k)))(hn:300<n):
  xecs Φ G n (Brows p) [some (false,.scr ns),some (false,.int (start:Nat)),some (false,.int (m:Nat)),some (false,.lst (fx.map pairD)),none,none,none,none,none]=.rt (.lst ((chunks m (runP (λk=>pickV ns (start+k)) (startP m fx)).owner).map rowD)):=by
 have hlen:(fixT fx (List.replicate (4*m) (-1)) fx.length).length=4*m:=by rw[eA];simp
 have hin:InP (startP m fx):=λi hi=>by
  have hi':i∈freeP (fixT fx (List.replicate (4*m) (-1)) fx.length):=hi;rw[freeP,List.mem_filter] at hi';exact List.mem_range.mp hi'.1
 have hll:(startP m fx).left.length<=4*m:=by
  show(freeP _).length<=_;rw[freeP];refine zB (List.length_filter_le _ _) ?_;rw[List.length_range,hlen];exact yP _
 generalize hs:startP m fx=s at*;have so:fixT fx (List.replicate (4*m) (-1)) fx.length=s.owner:=by rw[←hs];rfl
 have sl:freeP (fixT fx (List.replicate (4*m) (-1)) fx.length)=s.left:=by rw[←hs];rfl
 have sn:fx.length=s.name:=by rw[←hs];rfl
 let pk:Nat->Int:=λk=>pickV ns (start+k)
 let st:Nat->Sto:=λi=>[some (false,.scr ns),some (false,.int (start:Nat)),some (false,.int (m:Nat)),some (false,.lst (fx.map pairD)),some (true,.lst (intL (iterP pk s i).owner)),lastV none fx.length,some (true,.lst (natL (iterP pk s i).left)),some (false,.int ((iterP pk s i).name:Nat)),lastA pk s i]
 have e7:xec Φ G n (.asg 7 (.op1 .len (.var 3))) [some (false,.scr ns),some (false,.int (start:Nat)),some (false,.int (m:Nat)),some (false,.lst (fx.map pairD)),some (true,.lst (intL s.owner)),lastV none fx.length,some (true,.lst (natL s.left)),none,none]=.nx (st 0):=by
  simp only[xec,ev,frz,leaks,rdR,rdV,Zc,isOwn,frsh,Zf,Zi,Zj,Zk,Zl,yT,Zu,ZL,yI,sn,st,iterP,lastA]
 have ew:xec Φ G n (.whl (.leaf (.op2 .gt (.op1 .len (.var 6)) (.cst (.int 1)))) (Bturn p)) (st 0)=.nx (st (s.left.length/2)):=by
  have z:=d9 (c:=evT Φ G (.leaf (.op2 .gt (.op1 .len (.var 6)) (.cst (.int 1))))) (fz:=frz (leaksT (.leaf (.op2 .gt (.op1 .len (.var 6)) (.cst (.int 1)))))) (b:=xecs Φ G n (Bturn p)) (s.left.length/2) n st (by omega) (λi hi=>⟨?_,?_⟩) ?_
  ·simpa only[xec,xecs,xec,evT,ev,evs,evP,evO,frz,frz1,leaksT,leaks,leakss,leaksP,leaksO,rdR,rdV,Za,Zb,Zc,Zd,asB,asI,Py.sets,spread,capOf,isOwn,frsh,slc,Ze,Zf,Zg,Zh,Zi,Zj,Zk,Zl,Zm,Zn,Zo,Zp,Zq,yT,yX,yH,Zr,Zs,Zt,Zu,Zv,Zw,Zx,ZA,ZB,ZC,ZD,ZE,ZF,ZG,ZH,ZI,ZJ,ZK,ZL,ZM,ZN,ZO,ZP,ZQ,ZR,ZS,ZT,ZU] using z
  ·have hl:=(a9 (pk:=pk) (s:=s) i (by omega)).1
   have:decide ((1:Int)<(((natL (iterP pk s i).left).length:Nat):Int))=true:=zT (by simp only[natL,yI];omega);simp only[evT,ev,frz,leaksT,leaks,rdR,rdV,Za,Zf,Zk,Zl,Zq,yT,ZE,ZL,st,this]
  ·have hl:=(a9 (pk:=pk) (s:=s) i (by omega)).1
   have hpk:Φ p [.scr ns,.int ((start:Int)+((iterP pk s i).name:Nat))]=.ok (.int (pk (iterP pk s i).name)):=by
    have:=hp (start+(iterP pk s i).name)
    push_cast at this
    exact this
   have:=xE (Φ:=Φ) (G:=G) (n:=n) (start:=(start:Nat)) (many:=(m:Nat)) (c3:=some (false,.lst (fx.map pairD))) (c5:=lastV none fx.length) (c8:=lastA pk s i) (iterP pk s i) hpk (by omega) (by omega) (nS hin i);simpa only[xecs,xec,evT,ev,evs,evP,evO,frz,frz1,leaksT,leaks,leakss,leaksP,leaksO,rdR,rdV,Za,Zb,Zc,Zd,asB,asI,Py.sets,spread,capOf,isOwn,frsh,slc,Ze,Zf,Zg,Zh,Zi,Zj,Zk,Zl,Zm,Zn,Zo,Zp,Zq,yT,yX,yH,Zr,Zs,Zt,Zu,Zv,Zw,Zx,ZA,ZB,ZC,ZD,ZE,ZF,ZG,ZH,ZI,ZJ,ZK,ZL,ZM,ZN,ZO,ZP,ZQ,ZR,ZS,ZT,ZU,st,iterP,lastA] using this
  ·have hl:=(a9 (pk:=pk) (s:=s) (s.left.length/2) (by omega)).1
   have:decide ((1:Int)<(((natL (iterP pk s (s.left.length/2)).left).length:Nat):Int))=false:=zM (by simp only[natL,yI];omega);simp only[evT,ev,frz,leaksT,leaks,rdR,rdV,Za,Zf,Zk,Zl,Zq,yT,ZE,ZL,st,this]
 unfold Brows;rw[xecs,rows1 hm];dsimp only;rw[xecs,rows2 hl (by simpa using hf)];dsimp only;rw[xecs,rows3 hm hlen];dsimp only;rw[so,←so,sl,so,xecs,e7];dsimp only;rw[xecs,ew];dsimp only;rw[xecs,rows6 hm];rfl
end
structure GP(s:Pr):Prop where
 nd:s.left.Nodup
 neg:∀i∈s.left,s.owner[i]?=some (-1)
 oth:∀(i:Nat) x,s.owner[i]?=some x->i∉s.left->∃v:Nat,v<s.name/\x=(v:Int)
 two:∀v:Nat,v<s.name->s.owner.count (v:Int)=2
 sz:s.left.length+2*s.name=s.owner.length
theorem GP.big(g:GP s)(h:s.name<=v):s.owner.count (v:Int)=0:=by
 rw[List.count_eq_zero];intro hm;obtain⟨i,hi,e⟩:=List.getElem_of_mem hm;have e':s.owner[i]?=some (v:Int):=by rw[yS hi,e]
 by_cases hl:i∈s.left
 ·rw[g.neg i hl] at e'
  have:(-1:Int)=(v:Int):=y8 e';omega
 ·obtain⟨u,hu,e2⟩:=g.oth i _ e' hl
  omega
theorem iJ{o:List Int}(h:o[i]?=some z)(hz:z≠y):(o.set i x).count y=o.count y+(if x=y then 1 else 0):=by
 obtain⟨hi,e⟩:=List.getElem?_eq_some_iff.mp h;rw[List.count_set hi];have:(o[i]==y)=false:=by rw[e];simpa using hz
 rw[this];by_cases hx:x=y<;>simp[hx]
theorem GP.pair(g:GP ⟨o,l,nm⟩)(hp:l.Perm (a::b::(mid++tail))):GP ⟨(o.set a nm).set b nm,mid++tail,nm+1⟩:=by
 have nd:=hp.nodup_iff.mp g.nd;have na:a∉b::(mid++tail):=(List.nodup_cons.mp nd).1;have nd2:=(List.nodup_cons.mp nd).2;have nb:b∉mid++tail:=(List.nodup_cons.mp nd2).1;have nd3:(mid++tail).Nodup:=(List.nodup_cons.mp nd2).2;have hab:a≠b:=λe=>na (by simp[e]);have ha:o[a]?=some (-1):=g.neg a (hp.mem_iff.mpr (by simp));have hb:o[b]?=some (-1):=g.neg b (hp.mem_iff.mpr (by simp));have hb':(o.set a (nm:Int))[b]?=some (-1):=by rw[zI hab];exact hb
 have la:=(List.getElem?_eq_some_iff.mp ha).1;have lb:=(List.getElem?_eq_some_iff.mp hb).1;refine⟨nd3,λi hi=>?_,λi x e hi=>?_,λv hv=>?_,?_⟩
 ·have h1:b≠i:=λe=>nb (e▸hi)
  have h2:a≠i:=λe=>na (by rw[e];simp[hi]);show((o.set a (nm:Int)).set b (nm:Int))[i]?=_;rw[zI h1,zI h2];exact g.neg i (hp.mem_iff.mpr (by simp only[zA];exact .inr (.inr hi)))
 ·have e:((o.set a (nm:Int)).set b (nm:Int))[i]?=some x:=e
  by_cases h1:b=i
  ·subst h1
   rw[zD (by simpa using lb)] at e;exact⟨nm,Nat.lt_succ_self _,(y8 e).symm⟩
  ·rw[zI h1] at e
   by_cases h2:a=i
   ·subst h2
    rw[zD la] at e;exact⟨nm,Nat.lt_succ_self _,(y8 e).symm⟩
   ·rw[zI h2] at e
    obtain⟨v,hv,ex⟩:=g.oth i x e λhl=>by
     have:=hp.mem_iff.mp hl;simp only[zA] at this;rcases this with z|z|z
     ·exact h2 z.symm
     ·exact h1 z.symm
     ·exact hi z
    exact⟨v,Nat.lt_succ_of_lt hv,ex⟩
 ·show((o.set a (nm:Int)).set b (nm:Int)).count (v:Int)=2
  rw[iJ hb' (by omega),iJ ha (by omega)];by_cases hvn:v=nm
  ·subst hvn
   have:=g.big (v:=v) (yP _);simp only[] at this;rw[this];simp
  ·have h2:o.count (v:Int)=2:=g.two v (show v<nm by have:v<nm+1:=hv;omega)
   have hne:¬((nm:Int)=(v:Int)):=by omega
   rw[h2,yK hne]
 ·have:=g.sz
  have hl:=hp.length_eq;simp only[yJ,yY,List.length_set] at*;omega
theorem GP.step(g:GP s)(h:1<s.left.length):GP (stepP pk s):=by
 obtain⟨h1,h2,_⟩:=pQ (pk:=pk) h;obtain⟨o,l,nm⟩:=s;generalize hj:atV pk ⟨o,l,nm⟩=j at*;have h2:j<l.length:=h2
 match l,h,h2 with
 |a::rest,h,h2=>
  have hb:j-1<rest.length:=by simp only[yJ] at h2;omega
  have e0:(a::rest).getD j 0=rest[j-1]:=by
   obtain⟨j',rfl⟩:∃j',j=j'+1:=⟨j-1,by omega⟩
   simp only[Nat.add_sub_cancel] at hb⊢;simp[hb]
  have ed:(a::rest).drop (j+1)=rest.drop j:=by simp
  have er:rest=rest.take (j-1)++rest[j-1]::rest.drop j:=by
   have:=List.take_append_drop (j-1) rest;rw[z9 hb,show j-1+1=j by omega] at this;exact this.symm
  have hp:(a::rest).Perm (a::rest[j-1]::(rest.take (j-1)++rest.drop j)):=by
   refine List.Perm.cons a ?_
   conv=>lhs;rw[er]
   exact List.perm_middle
  have:=GP.pair g hp;simp only[stepP,hj,e0,ed,List.drop_succ_cons,List.drop_zero,List.getD_cons_zero];exact this
theorem GP.iter(g:GP s):∀i,2*i<=s.left.length->GP (iterP pk s i)
 |0,_=>g
 |i+1,h=>GP.step (GP.iter g i (by omega)) (by rw[(a9 i (by omega)).1];omega)
structure Two(W:List Int)(N:Nat):Prop where
 rng:∀x∈W,0<=x/\x<(N:Int)
 cnt:∀v:Nat,v<N->W.count (v:Int)=2
theorem GP.run(g:GP s)(hm:s.owner.length=4*m):Two (runP pk s).owner (2*m)/\(runP pk s).owner.length=4*m:=by
 have gi:=g.iter (pk:=pk) (s.left.length/2) (by omega);have hl:=a9 (pk:=pk) (s:=s) (s.left.length/2) (by omega);have ho:=iI (pk:=pk) (s:=s) (s.left.length/2);have hz:=g.sz;have e0:(iterP pk s (s.left.length/2)).left=[]:=List.eq_nil_of_length_eq_zero (by rw[hl.1];omega);have en:(iterP pk s (s.left.length/2)).name=2*m:=by rw[hl.2];omega
 refine⟨⟨λx hx=>?_,λv hv=>?_⟩,by rw[runP,ho,hm]⟩
 ·obtain⟨i,hi,e⟩:=List.getElem_of_mem hx
  obtain⟨v,hv,ex⟩:=gi.oth i x (show(runP pk s).owner[i]?=some x by rw[yS hi,e]) (by rw[e0];simp);rw[en] at hv;omega
 ·exact gi.two v (by rw[en];exact hv)
theorem GP.start0(m:Nat):GP (startP m []):=by
 have e1:(startP m []).owner=List.replicate (4*m) (-1):=rfl;have e2:(startP m []).left=List.range (4*m):=by
  show freeP (List.replicate (4*m) (-1))=_;rw[freeP,List.length_replicate];rw[List.filter_eq_self];intro k hk;have hk':k<4*m:=List.mem_range.mp hk;simp[List.getD,List.getElem?_replicate,hk']
 have e3:(startP m []).name=0:=rfl;refine⟨by rw[e2];exact List.nodup_range,λi hi=>?_,λi x e hi=>?_,λv hv=>?_,by rw[e1,e2,e3];simp⟩
 ·rw[e2] at hi
  rw[e1,List.getElem?_replicate,yM (List.mem_range.mp hi)]
 ·rw[e1,List.getElem?_replicate] at e
  by_cases hc:i<4*m
  ·exact absurd (by rw[e2];exact List.mem_range.mpr hc) hi
  ·rw[yK hc] at e;cases e
 ·rw[e3] at hv;exact absurd hv (Nat.not_lt_zero _)
theorem iK:∀(xs:List D)(Q:Nat->Sto->Prop),(∀i (h:i<xs.length) δ,Q i δ->∃δ',f xs[i] δ=.nx δ'/\Q (i+1) δ')->∀δ,Q 0 δ->∃δ',forM f xs δ=.nx δ'/\Q xs.length δ'
 |[],Q,_,δ,q=>⟨δ,rfl,q⟩
 |x::r,Q,h,δ,q=>by
  obtain⟨δ1,e1,q1⟩:=h 0 (by simp) δ q;obtain⟨δ2,e2,q2⟩:=iK r (λi=>Q (i+1)) (λi hi=>h (i+1) (by simpa using hi)) δ1 q1;exact⟨δ2,by rw[Py.forM.eq_2,show f x δ=.nx δ1 from e1];exact e2,q2⟩
theorem tU(n:Nat)(Q:Nat->Sto->Prop)(h:∀i,i<n->∀δ,Q i δ->∃δ',f (.int (i:Nat)) δ=.nx δ'/\Q (i+1) δ')(δ:Sto)(q:Q 0 δ):∃δ',forM f (rangeD 0 n) δ=.nx δ'/\Q n δ':=by
 have:=iK (f:=f) (rangeD 0 n) Q (λi hi δ q=>by
  have hi':i<n:=by simpa[rangeD] using hi
  have e:(rangeD 0 n)[i]=.int (i:Nat):=by simp[rangeD]
  rw[e];exact h i hi' δ q) δ q
 rwa[c9] at this
noncomputable def loopF(Φ:Nat->List D->R D)(G:List D)(n:Nat)(tg:List Nat)(body:List Sm):D->Sto->Out:=λx δ'=>match spread tg.length x with
 |none=>.bad
 |some ts=>xecs Φ G n body (sets δ' tg ts)
theorem eB(h:(evs Φ G false its (frz (leakss false its) δ)).bind (itemsD k)=.ok xs):xec Φ G n (.loop k its tg body) δ=forM (loopF Φ G n tg body) xs (frz (leakss false its) δ):=by
 simp only[xec];rw[h];rfl
theorem bD(h:(evs Φ G false its (frz (leakss false its) δ)).bind (itemsD k)=.ok xs)(Q:Nat->Sto->Prop)(q0:Q 0 (frz (leakss false its) δ))
  (st:∀i (h:i<xs.length) δ,Q i δ->∃δ',loopF Φ G n tg body xs[i] δ=.nx δ'/\Q (i+1) δ'):∃δ',xec Φ G n (.loop k its tg body) δ=.nx δ'/\Q xs.length δ':=by
 rw[eB h];exact iK xs Q st _ q0
theorem bL(h:(evs Φ G false its (frz (leakss false its) δ)).bind (itemsD .rng)=.ok (rangeD 0 m))(Q:Nat->Sto->Prop)(q0:Q 0 (frz (leakss false its) δ))
  (st:∀i,i<m->∀δ,Q i δ->∃δ',loopF Φ G n tg body (.int (i:Nat)) δ=.nx δ'/\Q (i+1) δ'):∃δ',xec Φ G n (.loop .rng its tg body) δ=.nx δ'/\Q m δ':=by
 rw[eB h];exact tU m Q st _ q0
theorem aD(h:xec Φ G n s δ=.nx δ'):xecs Φ G n (s::ss) δ=xecs Φ G n ss δ':=by rw[xecs,h]
theorem lG(hl:frz (leaks false e) δ=δ)(he:ev Φ G false e δ=.ok v)(hi:δ[i]?=some (some (true,.lst xs)))(hx:xs.length<LIM):xec Φ G n (.app i e) δ=.nx (δ.set i (some (true,.lst (xs++[v])))):=by
 simp only[xec,hl,he,of_ok,ownL,hi,yT,appD,hx]
theorem aL(hl:frz (leaks false e) δ=δ)(he:ev Φ G false e δ=.ok v):xec Φ G n (.asg i e) δ=.nx (δ.set i (some (frsh e&&isOwn v,v))):=by
 simp only[xec,hl,he,of_ok]
theorem cJ(he:ev Φ G false e (frz (leaks false e) δ)=.ok v):xec Φ G n (.ret e) δ=.rt v:=by
 simp only[xec,he,of_ok]
theorem kA(xs:List Int):(intL xs).all flat=true:=by simp[intL,flat]
theorem kB(x:Int)(xs:List Int):isin (.int x) (.lst (intL xs))=.ok (decide (x∈xs)):=by
 have h1:(flat (.int x)&&(intL xs).all flat)=true:=by rw[kA];rfl
 simp only[isin,h1,yT]
 congr 1
 simp only[inD,intL,List.any_map];clear h1
 induction xs with
 |nil=>rfl
 |cons y r ih=>
  simp only[List.any_cons,Function.comp_apply,eqD];rw[show(r.any ((λy=>eqD y (D.int x))∘D.int))=decide (x∈r) from ih];by_cases e:y=x
  ·subst e;simp
  ·simp[e,zL e]
theorem kC(x:Int):∀(xs:List Int),x∈xs->idxD (.int x) (intL xs)=some (xs.idxOf x)
 |[],h=>by simp at h
 |y::r,h=>by
  show idxD (.int x) (.int y::intL r)=_;rw[idxD];by_cases e:y=x
  ·subst e
   rw[yM (by simp[eqD])];simp
  ·rw[yK (by simpa[eqD] using e)]
   have h':x∈r:=(List.mem_cons.mp h).resolve_left (zL e);rw[kC x r h',List.idxOf_cons,show(y==x)=false by simpa using e];rfl
theorem pR(x:Int)(xs:List Int)(h:x∈xs):op2 .index (.lst (intL xs)) (.int x)=.ok (.int (xs.idxOf x:Nat)):=by
 have h1:(flat (.int x)&&(intL xs).all flat)=true:=by rw[kA];rfl
 show(if(flat (.int x)&&(intL xs).all flat)=true then _ else _)=_;rw[yM h1,kC x xs h];rfl
theorem iL(x:Int)(xs:List Int):op2 .notIn (.int x) (.lst (intL xs))=.ok (.bl (!decide (x∈xs))):=by
 show(isin (.int x) (.lst (intL xs))).bind _=_;rw[kB];rfl
noncomputable def dd(acc:List Int):List Int->List Int
 |[]=>acc
 |x::r=>dd (if x∈acc then acc else acc++[x]) r
theorem iM(acc xs ys:List Int):dd acc (xs++ys)=dd (dd acc xs) ys:=by
 induction xs generalizing acc with
 |nil=>rfl
 |cons x r ih=>exact ih _
theorem lH(acc xs:List Int):(dd acc xs).length<=acc.length+xs.length:=by
 induction xs generalizing acc with
 |nil=>simp[dd]
 |cons x r ih=>
  rw[dd];refine zB (ih _) ?_;by_cases h:x∈acc<;>simp[h]<;>omega
theorem e9(acc xs:List Int):∀x,x∈dd acc xs↔x∈acc\/x∈xs:=by
 induction xs generalizing acc with
 |nil=>simp[dd]
 |cons y r ih=>
  intro x;rw[dd,ih];by_cases hy:y∈acc
  ·rw[yM hy]
   simp only[zA];constructor
   ·rintro(h|h)
    ·exact .inl h
    ·exact .inr (.inr h)
   ·rintro(h|rfl|h)
    ·exact .inl h
    ·exact .inl hy
    ·exact .inr h
  ·rw[yK hy]
   simp only[List.mem_append,zA,List.not_mem_nil,or_false];constructor
   ·rintro((h|h)|h)
    ·exact .inl h
    ·exact .inr (.inl h)
    ·exact .inr (.inr h)
   ·rintro(h|h|h)
    ·exact .inl (.inl h)
    ·exact .inl (.inr h)
    ·exact .inr h
theorem nW(acc xs:List Int)(h:acc.Nodup):(dd acc xs).Nodup:=by
 induction xs generalizing acc with
 |nil=>exact h
 |cons y r ih=>
  refine ih _ ?_;by_cases hy:y∈acc
  ·rw[yM hy];exact h
  ·rw[yK hy]
   rw[List.nodup_append];refine⟨h,by simp,λa ha b hb=>?_⟩;have:b=y:=by simpa using hb
   subst this;rintro rfl;exact hy ha
noncomputable def numV(R:List (List Int)):List (List Int):=R.map λr=>r.map λx=>((dd [] R.flatten).idxOf x:Nat)
noncomputable def Bnumbered:List Sm:=[(.asg 1 (.lst [])),(.loop .seq [(.var 0)] [2] [(.loop .seq [(.var 2)] [3] [(.ite (.leaf (.op2 .notIn (.var 3) (.var 1))) [(.app 1 (.var 3))] [])])]),(.asg 4 (.lst [])),(.loop .seq [(.var 0)] [2] [(.app 4 (.op1 .tuple (.comp .seq [(.var 2)] [1] 1 none (.op2 .index (.var 1) (.var 0)))))]),(.ret (.op1 .tuple (.var 4)))]
section
variable{Φ:Nat->List D->R D}{G:List D}{n:Nat}
theorem num_in{rc:List Int->D}(hrc:∀r:List Int,r.length<=1000->itemsD .seq [rc r]=.ok (intL r)){d0:D}{c2 c3 c4:Slot}{acc r:List Int}(hl:acc.length+r.length<90000)(hr:r.length<=1000):
  ∃c3',xec Φ G n (.loop .seq [(.var 2)] [3] [(.ite (.leaf (.op2 .notIn (.var 3) (.var 1))) [(.app 1 (.var 3))] [])]) [some (false,d0),some (true,.lst (intL acc)),some (false,rc r),c3,c4]=.nx [some (false,d0),some (true,.lst (intL (dd acc r))),some (false,rc r),c3',c4]:=by
 have hi:itemsD .seq [rc r]=.ok (intL r):=hrc r hr;have step:∀i (h:i<(intL r).length) δ,(∃c,δ=[some (false,d0),some (true,.lst (intL (dd acc (r.take i)))),some (false,rc r),c,c4])->∃δ',loopF Φ G n [3] [(.ite (.leaf (.op2 .notIn (.var 3) (.var 1))) [(.app 1 (.var 3))] [])] (intL r)[i] δ=.nx δ'/\∃c,δ'=[some (false,d0),some (true,.lst (intL (dd acc (r.take (i+1))))),some (false,rc r),c,c4]:=by
  rintro i h δ ⟨c,rfl⟩;have hi':i<r.length:=by simpa[intL] using h
  have ex:(intL r)[i]=.int r[i]:=by simp[intL]
  have et:r.take (i+1)=r.take i++[r[i]]:=zJ hi';have hd:dd acc (r.take (i+1))=if r[i]∈dd acc (r.take i) then dd acc (r.take i) else dd acc (r.take i)++[r[i]]:=by
   rw[et,iM];rfl
  rw[ex,hd];have hlen:(intL (dd acc (r.take i))).length<LIM:=by
   have:=lH acc (r.take i);have h2:(r.take i).length<=r.length:=by rw[zO];omega
   have:LIM=100000:=rfl;simp only[intL,yI];omega
  by_cases hm:r[i]∈dd acc (r.take i)
  ·rw[yM hm]
   refine⟨_,?_,some (false,.int r[i]),rfl⟩;simp only[loopF,xecs,xec,evT,ev,frz,frz1,leaksT,leaks,rdR,rdV,Za,Zc,Py.sets,spread,Zf,Zi,Zj,Zk,Zl,Zq,yT,yX,yH,Zv,iL,hm,decide_true,yJ,y7,zN]
  ·rw[yK hm]
   refine⟨_,?_,some (false,.int r[i]),rfl⟩;simp only[loopF,xecs,xec,evT,ev,frz,frz1,leaksT,leaks,rdR,rdV,Za,Zc,Py.sets,spread,Zf,Zi,Zj,Zk,Zl,Zq,yT,yX,yH,Zw,iL,hm,aAT,yJ,y7,zN,ownL,appD,hlen];simp[intL]
 obtain⟨δ',e,c3',rfl⟩:=bD (Φ:=Φ) (G:=G) (n:=n) (k:=.seq) (its:=[(.var 2)]) (tg:=[3]) (body:=[(.ite (.leaf (.op2 .notIn (.var 3) (.var 1))) [(.app 1 (.var 3))] [])]) (δ:=[some (false,d0),some (true,.lst (intL acc)),some (false,rc r),c3,c4]) (xs:=intL r) (by simp only[ev,evs,frz,frz1,leaks,leakss,rdR,rdV,Zf,Zk,Zl,Zq,yX,yH,hi])
  (λi δ=>∃c,δ=[some (false,d0),some (true,.lst (intL (dd acc (r.take i)))),some (false,rc r),c,c4]) ⟨c3,rfl⟩ step
 refine⟨c3',?_⟩;have hlr:(intL r).length=r.length:=by simp[intL]
 rw[hlr,zV] at e;exact e
theorem num_row{rc:List Int->D}(hrc:∀r:List Int,r.length<=1000->itemsD .seq [rc r]=.ok (intL r)){names r:List Int}{c:Slot}(hr:r.length<=1000)(hs:∀x∈r,x∈names)(h2:rdR δ 2=.ok (rc r))(h1:δ[1]?=some (some (true,.lst (intL names)))):
  ev Φ G m (.comp .seq [(.var 2)] [1] 1 none (.op2 .index (.var 1) (.var 0))) δ=.ok (.lst (intL (r.map λx=>(names.idxOf x:Nat)))):=by
 have hi:itemsD .seq [rc r]=.ok (intL r):=hrc r hr;simp only[ev,evs,yT,h2,aS,hi,capOf,yQ,aAO,h1,Option.getD_some];rw[bK (λx=>match x with|.int k=>.int (names.idxOf k:Nat)|_=>.non) _ λx hx=>?_]
 ·simp only[R.quiet_ok,aS]
  congr 2
  simp[intL,Function.comp_def]
 ·obtain⟨k,hk,rfl⟩:=List.mem_map.mp hx
  simp only[evO,rdR,spread,Zf,Zk,Zl,Zm,Zn,Zo,Zp,yT,pR k names (hs k hk)]
theorem lI(hrc:∀r:List Int,r.length<=1000->itemsD .seq [rc r]=.ok (intL r)){R:List (List Int)}(h0:itemsD .seq [d0]=.ok (R.map rc))(hR:∀r∈R,r.length<=1000)(hl:R.flatten.length<=80000)(hL:R.length<=1000):
  xecs Φ G n Bnumbered [some (false,d0),none,none,none,none]=.rt (.tup ((numV R).map rowD)):=by
 unfold Bnumbered;have e1:xec Φ G n (.asg 1 (.lst [])) [some (false,d0),none,none,none,none]=.nx [some (false,d0),some (true,.lst (intL [])),none,none,none]:=by simp only[xec,ev,evs,frz,leaks,leakss,Zc,isOwn,frsh,Zf,Zi,Zj,Zt];rfl
 rw[aD e1];have step2:∀i (h:i<(R.map rc).length) δ,(∃c2 c3,δ=[some (false,d0),some (true,.lst (intL (dd [] (R.take i).flatten))),c2,c3,none])->∃δ',loopF Φ G n [2] [(.loop .seq [(.var 2)] [3] [(.ite (.leaf (.op2 .notIn (.var 3) (.var 1))) [(.app 1 (.var 3))] [])])] (R.map rc)[i] δ=.nx δ'/\∃c2 c3,δ'=[some (false,d0),some (true,.lst (intL (dd [] (R.take (i+1)).flatten))),c2,c3,none]:=by
  rintro i h δ ⟨c2,c3,rfl⟩;have hi:i<R.length:=by simpa using h
  have et:R.take (i+1)=R.take i++[R[i]]:=zJ hi;have hr:=hR R[i] (zS hi);have hfl:(R.take i).flatten.length<=R.flatten.length:=by
   conv=>rhs;rw[←List.take_append_drop i R]
   rw[List.flatten_append,yY];omega
  have hdl:=lH [] (R.take i).flatten;obtain⟨c3',e⟩:=num_in hrc (Φ:=Φ) (G:=G) (n:=n) (d0:=d0) (c2:=none) (c3:=c3) (c4:=none) (acc:=dd [] (R.take i).flatten) (r:=R[i]) (by rw[y7] at hdl;omega) hr;refine⟨_,?_,some (false,rc R[i]),c3',rfl⟩;have ed:dd [] (R.take (i+1)).flatten=dd (dd [] (R.take i).flatten) R[i]:=by rw[et,List.flatten_append,iM];simp
  rw[ed,List.getElem_map];simp only[loopF,spread,yJ,y7,zN,Py.sets,aAN,aAJ];rw[aD e];rfl
 obtain⟨δ2,e2,c2,c3,rfl⟩:=bD (Φ:=Φ) (G:=G) (n:=n) (k:=.seq) (its:=[(.var 0)]) (tg:=[2]) (body:=[(.loop .seq [(.var 2)] [3] [(.ite (.leaf (.op2 .notIn (.var 3) (.var 1))) [(.app 1 (.var 3))] [])])]) (δ:=[some (false,d0),some (true,.lst (intL [])),none,none,none]) (xs:=R.map rc) (by simp only[ev,evs,frz,frz1,leaks,leakss,rdR,rdV,Zf,Zk,Zq,yX,yH];exact h0)
  (λi δ=>∃c2 c3,δ=[some (false,d0),some (true,.lst (intL (dd [] (R.take i).flatten))),c2,c3,none]) ⟨none,none,rfl⟩ step2
 rw[aD e2];rw[yI,zV];generalize hnm:dd [] R.flatten=names;have e3:xec Φ G n (.asg 4 (.lst [])) [some (false,d0),some (true,.lst (intL names)),c2,c3,none]=.nx [some (false,d0),some (true,.lst (intL names)),c2,c3,some (true,.lst [])]:=by simp only[xec,ev,evs,frz,leaks,leakss,Zc,isOwn,frsh,Zf,Zi,Zj,Zt]
 rw[aD e3];have step5:∀i (h:i<(R.map rc).length) δ,(∃c2 c3,δ=[some (false,d0),some (true,.lst (intL names)),c2,c3,some (true,.lst (((R.take i).map λr=>r.map λx=>((names.idxOf x:Nat):Int)).map rowD))])->
   ∃δ',loopF Φ G n [2] [(.app 4 (.op1 .tuple (.comp .seq [(.var 2)] [1] 1 none (.op2 .index (.var 1) (.var 0)))))] (R.map rc)[i] δ=.nx δ'/\∃c2 c3,δ'=[some (false,d0),some (true,.lst (intL names)),c2,c3,some (true,.lst (((R.take (i+1)).map λr=>r.map λx=>((names.idxOf x:Nat):Int)).map rowD))]:=by
  rintro i h δ ⟨c2,c3,rfl⟩;have hi:i<R.length:=by simpa using h
  have et:R.take (i+1)=R.take i++[R[i]]:=zJ hi;have hr:=hR R[i] (zS hi);have hs:∀x∈R[i],x∈names:=λx hx=>by
   rw[←hnm,e9];exact .inr (List.mem_flatten.mpr ⟨R[i],zS hi,hx⟩)
  have hlen:(((R.take i).map λr=>r.map λx=>((names.idxOf x:Nat):Int)).map rowD).length<LIM:=by
   simp only[yI,zO];have:LIM=100000:=rfl;omega
  refine⟨_,?_,some (false,rc R[i]),c3,rfl⟩;rw[List.getElem_map];have ec:=num_row hrc (m:=true) (Φ:=Φ) (G:=G) (names:=names) (r:=R[i]) (δ:=[some (false,d0),some (true,.lst (intL names)),some (false,rc R[i]),c3,some (true,.lst (((R.take i).map λr=>r.map λx=>((names.idxOf x:Nat):Int)).map rowD))]) (c:=none) hr hs rfl rfl;simp only[loopF,spread,yJ,y7,zN,Py.sets,aAN,aAJ];have ec2:ev Φ G false (.op1 .tuple (.comp .seq [(.var 2)] [1] 1 none (.op2 .index (.var 1) (.var 0)))) [some (false,d0),some (true,.lst (intL names)),some (false,rc R[i]),c3,some (true,.lst (((R.take i).map λr=>r.map λx=>((names.idxOf x:Nat):Int)).map rowD))]=.ok (rowD (R[i].map λx=>((names.idxOf x:Nat):Int))):=by
   rw[ev,ec];rfl
  rw[aD (lG rfl ec2 rfl hlen)];simp only[xecs,aAN,aAJ,et,zW,yQ,aAO]
 obtain⟨δ4,e4,c2',c3',rfl⟩:=bD (Φ:=Φ) (G:=G) (n:=n) (k:=.seq) (its:=[(.var 0)]) (tg:=[2]) (body:=[(.app 4 (.op1 .tuple (.comp .seq [(.var 2)] [1] 1 none (.op2 .index (.var 1) (.var 0)))))]) (δ:=[some (false,d0),some (true,.lst (intL names)),c2,c3,some (true,.lst [])]) (xs:=R.map rc) (by simp only[ev,evs,frz,frz1,leaks,leakss,rdR,rdV,Zf,Zk,Zq,yX,yH];exact h0)
  (λi δ=>∃c2 c3,δ=[some (false,d0),some (true,.lst (intL names)),c2,c3,some (true,.lst (((R.take i).map λr=>r.map λx=>((names.idxOf x:Nat):Int)).map rowD))]) ⟨c2,c3,rfl⟩ step5
 rw[aD e4];simp only[xecs,xec,ev,frz,leaks,rdR,rdV,Zc,Zf,Zk,Zl,yT,ZP,yI,zV,numV,hnm]
theorem lJ{R:List (List Int)}(h0:itemsD .seq [d0]=.ok (R.map rowD))(hR:∀r∈R,r.length<=1000)(hl:R.flatten.length<=80000)(hL:R.length<=1000):
  xecs Φ G n Bnumbered [some (false,d0),none,none,none,none]=.rt (.tup ((numV R).map rowD)):=lI (λr hr=>cI (by simpa[intL] using hr)) h0 hR hl hL
end
theorem nX(m:Nat)(o:List Int)(h:o.length=4*m):(chunks m o).flatten=o:=by
 have gen:∀j,j<=m->((List.range j).map λk=>(o.drop (4*k)).take 4).flatten=o.take (4*j):=by
  intro j
  induction j with
  |zero=>simp
  |succ j ih=>
   intro hj;rw[aAS,zW,List.flatten_append,ih (by omega)];simp only[yQ,aAO,List.flatten_cons,List.flatten_nil,aAQ];have e:o.take (4*(j+1))=o.take (4*j)++(o.drop (4*j)).take 4:=by
    rw[show 4*(j+1)=4*j+4 by omega,List.take_add]
   rw[e]
 rw[chunks,gen m (yP m),←h,zV]
theorem iN(m:Nat)(o:List Int)(h:o.length=4*m):(chunks m o).length=m/\∀r∈chunks m o,r.length=4:=by
 refine⟨by simp[chunks],λr hr=>?_⟩;obtain⟨k,hk,rfl⟩:=List.mem_map.mp hr;have hk':=List.mem_range.mp hk;rw[zO,aAP];omega
theorem dd_perm(t:Two W N):(dd [] W).Perm ((List.range N).map λk=>((k:Nat):Int)):=by
 have n1:(dd [] W).Nodup:=nW [] W z0;have n2:((List.range N).map λk=>((k:Nat):Int)).Nodup:=by
  rw[List.nodup_iff_pairwise_ne,List.pairwise_map];exact List.Pairwise.imp (λh e=>h (by omega)) (List.nodup_iff_pairwise_ne.mp List.nodup_range)
 rw[List.perm_ext_iff_of_nodup n1 n2];intro x;rw[e9,List.mem_map];constructor
 ·rintro(h|h)
  ·simp at h
  ·obtain⟨h1,h2⟩:=t.rng x h
   exact⟨x.toNat,List.mem_range.mpr (by omega),by omega⟩
 ·rintro⟨k,hk,rfl⟩
  refine .inr ?_;have:=t.cnt k (List.mem_range.mp hk);exact List.count_pos_iff.mp (by omega)
theorem pS(t:Two W N):(dd [] W).length=N:=by rw[(dd_perm t).length_eq];simp
theorem tV(R:List (List Int)):(numV R).flatten=R.flatten.map λx=>(((dd [] R.flatten).idxOf x:Nat):Int):=by
 rw[numV,List.map_flatten]
theorem kD:∀{l:List Int}{v:Nat}(nd:l.Nodup)(h:v<l.length),l.idxOf l[v]=v
 |a::r,0,_,_=>by simp
 |a::r,v+1,nd,h=>by
  have hv:v<r.length:=by simpa using h
  have hne:a≠r[v]:=λe=>(List.nodup_cons.mp nd).1 (by rw[e];exact zS hv);rw[List.getElem_cons_succ,List.idxOf_cons,show(a==r[v])=false by simpa using hne];simp only[cond_false];rw[kD (List.nodup_cons.mp nd).2 hv]
theorem num_two{R:List (List Int)}(t:Two R.flatten N):Two (numV R).flatten N:=by
 have hl:=pS t;have nd:(dd [] R.flatten).Nodup:=nW [] _ z0;have mem:∀x∈R.flatten,x∈dd [] R.flatten:=λx hx=>(e9 _ _ x).mpr (.inr hx);rw[tV];refine⟨λx hx=>?_,λv hv=>?_⟩
 ·obtain⟨y,hy,rfl⟩:=List.mem_map.mp hx
  have:=List.idxOf_lt_length_iff.mpr (mem y hy);rw[hl] at this;omega
 ·have hv':v<(dd [] R.flatten).length:=by rw[hl];exact hv
  rw[List.count,List.countP_map];have e:R.flatten.countP ((λx=>x==(v:Int))∘λx=>(((dd [] R.flatten).idxOf x:Nat):Int))=R.flatten.countP (λx=>x==(dd [] R.flatten)[v]):=by
   refine List.countP_congr λx hx=>?_;simp only[Function.comp_apply,beq_iff_eq];constructor
   ·intro e
    have e':(dd [] R.flatten).idxOf x=v:=by omega
    have:=List.getElem_idxOf (List.idxOf_lt_length_iff.mpr (mem x hx));simp only[e'] at this;exact this.symm
   ·intro e
    rw[e,kD nd]
  rw[e];have hx:(dd [] R.flatten)[v]∈R.flatten:=by
   have:=(e9 [] R.flatten _).mp (zS hv');rcases this with h|h
   ·simp at h
   ·exact h
  obtain⟨h1,h2⟩:=t.rng _ hx;have:=t.cnt ((dd [] R.flatten)[v]).toNat (by omega);rw[show((((dd [] R.flatten)[v]).toNat:Nat):Int)=(dd [] R.flatten)[v] by omega] at this;exact this
theorem nY(R:List (List Int)):(numV R).length=R.length:=by simp[numV]
theorem kE{R:List (List Int)}(h:∀r∈R,r.length=k):∀r∈numV R,r.length=k:=by
 intro r hr;obtain⟨q,hq,rfl⟩:=List.mem_map.mp hr;simpa using h q hq
structure Sheet(Q:List (List Int))(m:Nat):Prop where
 len:Q.length=m
 four:∀r∈Q,r.length=4
 two:Two Q.flatten (2*m)
theorem pT(pk:Nat->Int)(m:Nat):Sheet (numV (chunks m (runP pk (startP m [])).owner)) m:=by
 have g:=(GP.start0 m).run (pk:=pk) (m:=m) (by show(List.replicate (4*m) (-1:Int)).length=_;simp);obtain⟨c1,c2⟩:=iN m _ g.2;refine⟨by rw[nY,c1],kE c2,num_two ?_⟩;rw[nX m _ g.2];exact g.1
noncomputable def placesR(r:List Int)(k:Nat)(line:Int)(j:Nat):List (Nat×Nat):=((List.range j).filter λe=>r.getD e 0==line).map λe=>(k,e)
noncomputable def placesN(Q:List (List Int))(line:Int)(i:Nat):List (Nat×Nat):=(List.range i).flatMap λk=>placesR (Q.getD k []) k line 4
noncomputable def placesV(Q:List (List Int))(line:Int):List (Nat×Nat):=placesN Q line Q.length
theorem nZ(r:List Int)(k:Nat)(line:Int)(h:r.length=4):(placesR r k line 4).length=r.count line:=by
 rw[placesR,yI,←List.countP_eq_length_filter,List.count]
 conv=>rhs;rw[show r=(List.range 4).map λe=>r.getD e 0 from List.ext_getElem (by simp[h]) λi h1 h2=>by simp[h1]]
 rw[List.countP_map];rfl
theorem fN(line:Int)(h:∀r∈Q,r.length=4):(placesV Q line).length=Q.flatten.count line:=by
 have gen:∀i,i<=Q.length->(placesN Q line i).length=(Q.take i).flatten.count line:=by
  intro i
  induction i with
  |zero=>simp[placesN]
  |succ i ih=>
   intro hi;have hi':i<Q.length:=by omega
   have e1:placesN Q line (i+1)=placesN Q line i++placesR (Q.getD i []) i line 4:=by
    simp[placesN,aAS,List.flatMap_append]
   have e2:Q.take (i+1)=Q.take i++[Q[i]]:=zJ hi';rw[e1,e2,yY,ih (by omega),List.flatten_append,List.count_append];have:Q.getD i []=Q[i]:=by simp[hi']
   rw[this,nZ _ _ _ (h _ (zS hi'))];simp
 rw[placesV,gen Q.length (yP _),zV]
theorem Sheet.places(s:Sheet Q m)(h:v<2*m):(placesV Q (v:Int)).length=2:=by
 rw[fN _ s.four];exact s.two.cnt v h
theorem Sheet.none(s:Sheet Q m){x:Int}(h:x<0\/(2*m:Nat)<=x):placesV Q x=[]:=by
 refine List.eq_nil_of_length_eq_zero ?_;rw[fN _ s.four,List.count_eq_zero];intro hm;have:=s.two.rng x hm;omega
section
variable{Φ:Nat->List D->R D}{G:List D}{n:Nat}
theorem n4(h:e<r.length):atD (intL r) (e:Nat)=some (.int (r.getD e 0)):=by
 rw[at_nat (by simpa[intL] using h)];simp[intL,h]
theorem kF{Q:List (List Int)}(h:k<Q.length):atD (Q.map rowD) (k:Nat)=some (rowD (Q.getD k [])):=by
 rw[at_nat (by simpa using h)];simp[h]
theorem lK(r:List Int)(k:Nat)(line:Int)(j:Nat):placesR r k line (j+1)=if r.getD j 0==line then placesR r k line j++[(k,j)] else placesR r k line j:=by
 simp only[placesR,aAS,List.filter_append,zW];by_cases h:(r.getD j 0==line)=true
 ·rw[yM h];simp only[List.filter_cons,h,yT,List.filter_nil,yQ,aAO]
 ·rw[yK h];simp only[List.filter_cons,h,yX,List.filter_nil,aAO,aAQ,yH]
theorem eC(Q:List (List Int))(line:Int)(i:Nat):placesN Q line (i+1)=placesN Q line i++placesR (Q.getD i []) i line 4:=by
 simp[placesN,aAS,List.flatMap_append]
theorem pU(Q:List (List Int))(line:Int)(i:Nat):(placesN Q line i).length<=4*i:=by
 induction i with
 |zero=>simp[placesN]
 |succ i ih=>
  rw[eC,yY];have:(placesR (Q.getD i []) i line 4).length<=4:=by
   rw[placesR,yI];exact zB (List.length_filter_le _ _) (by simp)
  omega
theorem pV(r:List Int)(k:Nat)(line:Int)(j:Nat):(placesR r k line j).length<=j:=by
 rw[placesR,yI];exact zB (List.length_filter_le _ _) (by simp)
noncomputable def Bends(c:Nat):List Sm:=[(.asg 2 (.lst [])),(.loop .enum [(.op2 .at (.var 0) (.cst (.int 0)))] [3,4] [(.loop .rng [(.cst (.int 4))] [5] [(.ite (.leaf (.op2 .eq (.op2 .at (.var 4) (.var 5)) (.var 1))) [(.app 2 (.tup [(.var 3),(.var 5)]))] [])])]),(.ite (.not (.leaf (.var 2))) [(.rai c)] []),(.ret (.op1 .tuple (.var 2)))]
theorem ends_in(hr:r.length=4)(hl:acc.length<90000):
  ∃c5',xec Φ G n (.loop .rng [(.cst (.int 4))] [5] [(.ite (.leaf (.op2 .eq (.op2 .at (.var 4) (.var 5)) (.var 1))) [(.app 2 (.tup [(.var 3),(.var 5)]))] [])]) [some (false,d0),some (false,.int line),some (true,.lst (acc.map pairD)),some (false,.int (k:Nat)),some (false,rowD r),c5]=
   .nx [some (false,d0),some (false,.int line),some (true,.lst ((acc++placesR r k line 4).map pairD)),some (false,.int (k:Nat)),some (false,rowD r),c5']:=by
 have step:∀i,i<4->∀δ,(∃c,δ=[some (false,d0),some (false,.int line),some (true,.lst ((acc++placesR r k line i).map pairD)),some (false,.int (k:Nat)),some (false,rowD r),c])->
   ∃δ',loopF Φ G n [5] [(.ite (.leaf (.op2 .eq (.op2 .at (.var 4) (.var 5)) (.var 1))) [(.app 2 (.tup [(.var 3),(.var 5)]))] [])] (.int (i:Nat)) δ=.nx δ'/\∃c,δ'=[some (false,d0),some (false,.int line),some (true,.lst ((acc++placesR r k line (i+1)).map pairD)),some (false,.int (k:Nat)),some (false,rowD r),c]:=by
  rintro i hi δ ⟨c,rfl⟩;have ha:=n4 (r:=r) (e:=i) (by omega);have hlen:((acc++placesR r k line i).map pairD).length<LIM:=by
   have:=pV r k line i;have:LIM=100000:=rfl;simp only[yI,yY];omega
  rw[lK];by_cases hm:(r.getD i 0==line)=true
  ·rw[yM hm]
   refine⟨_,?_,some (false,.int (i:Nat)),rfl⟩;simp only[loopF,rowD,xecs,xec,evT,ev,evs,frz,frz1,leaksT,leaks,leakss,rdR,rdV,Za,Zc,Py.sets,spread,Ze,Zf,Zi,Zj,Zk,Zl,Zo,Zp,Zq,yT,yX,yH,ZG,ZJ,ha,hm,yJ,y7,zN,ownL,appD,hlen];simp[pairD]
  ·rw[yK hm]
   refine⟨_,?_,some (false,.int (i:Nat)),rfl⟩;simp only[loopF,rowD,xecs,xec,evT,ev,evs,frz,frz1,leaksT,leaks,leakss,rdR,rdV,Za,Zc,Py.sets,spread,Ze,Zf,Zi,Zj,Zk,Zl,Zo,Zp,Zq,yT,yX,yH,ZG,ZJ,ha,hm,yJ,y7,zN]
 obtain⟨δ',e,c,rfl⟩:=bL (Φ:=Φ) (G:=G) (n:=n) (its:=[(.cst (.int 4))]) (tg:=[5]) (body:=[(.ite (.leaf (.op2 .eq (.op2 .at (.var 4) (.var 5)) (.var 1))) [(.app 2 (.tup [(.var 3),(.var 5)]))] [])]) (δ:=[some (false,d0),some (false,.int line),some (true,.lst (acc.map pairD)),some (false,.int (k:Nat)),some (false,rowD r),c5]) (m:=4) (by simp only[ev,evs,Zf];exact aM (n:=4) (by decide))
  (λi δ=>∃c,δ=[some (false,d0),some (false,.int line),some (true,.lst ((acc++placesR r k line i).map pairD)),some (false,.int (k:Nat)),some (false,rowD r),c]) ⟨c5,by simp[placesR,frz,frz1,leakss,leaks]⟩ step
 exact⟨c,e⟩
theorem iO:∀(xs:List D)(n i:Nat)(h:i<(enumD n xs).length)(h':i<xs.length),(enumD n xs)[i]=.tup [.int ((n+i:Nat):Int),xs[i]]
 |x::r,n,0,_,_=>rfl
 |x::r,n,i+1,h,h'=>by
  have:=iO r (n+1) i (by simpa[enumD] using h) (by simpa using h');rw[show n+1+i=n+(i+1) by omega] at this;exact this
theorem aO:∀(xs:List D)(n:Nat),(enumD n xs).length=xs.length
 |[],_=>rfl
 |x::r,n=>by simp[enumD,aO r (n+1)]
theorem xF{rings line:Int}(h4:∀r∈Q,r.length=4)(hQ:Q.length<=1000):
  (xecs Φ G n (Bends c) [some (false,.tup [.tup (Q.map rowD),.int rings]),some (false,.int line),none,none,none,none]).val=if placesV Q line=[] then .exc c else .ok (.tup ((placesV Q line).map pairD)):=by
 generalize hd:D.tup [.tup (Q.map rowD),.int rings]=d0;unfold Bends;have e1:xec Φ G n (.asg 2 (.lst [])) [some (false,d0),some (false,.int line),none,none,none,none]=.nx [some (false,d0),some (false,.int line),some (true,.lst (([]:List (Nat×Nat)).map pairD)),none,none,none]:=by simp only[xec,ev,evs,frz,leaks,leakss,Zc,isOwn,frsh,Zf,Zi,Zj,Zn,Zt]
 rw[aD e1];have hit:itemsD .enum [.tup (Q.map rowD)]=.ok (enumD 0 (Q.map rowD)):=by
  show(if(enumD 0 (Q.map rowD)).length<=LIM then R.ok (enumD 0 (Q.map rowD)) else R.bad)=_;rw[aO,yI,yM (zB hQ (by decide))]
 have a0:atD [D.tup (Q.map rowD),.int rings] 0=some (.tup (Q.map rowD)):=rfl;have step:∀i (h:i<(enumD 0 (Q.map rowD)).length) δ,(∃x3 x4 x5,δ=[some (false,d0),some (false,.int line),some (true,.lst ((placesN Q line i).map pairD)),x3,x4,x5])->
   ∃δ',loopF Φ G n [3,4] [(.loop .rng [(.cst (.int 4))] [5] [(.ite (.leaf (.op2 .eq (.op2 .at (.var 4) (.var 5)) (.var 1))) [(.app 2 (.tup [(.var 3),(.var 5)]))] [])])] (enumD 0 (Q.map rowD))[i] δ=.nx δ'/\∃x3 x4 x5,δ'=[some (false,d0),some (false,.int line),some (true,.lst ((placesN Q line (i+1)).map pairD)),x3,x4,x5]:=by
  rintro i h δ ⟨x3,x4,x5,rfl⟩;have hi:i<Q.length:=by simpa[aO] using h
  have hq:Q.getD i []=Q[i]:=by simp[hi]
  have hr:Q[i].length=4:=h4 _ (zS hi);have hl:=pU Q line i;obtain⟨c5',e⟩:=ends_in (Φ:=Φ) (G:=G) (n:=n) (d0:=d0) (c5:=x5) (acc:=placesN Q line i) (r:=Q[i]) (k:=i) (line:=line) hr (by omega);refine⟨_,?_,some (false,.int (i:Nat)),some (false,rowD Q[i]),c5',rfl⟩;rw[iO _ 0 i h (by simpa using hi),List.getElem_map,eC,hq];simp only[loopF,spread,yJ,y7,zN,yT,Py.sets,aAN,aAJ];rw[aD e];rfl
 obtain⟨δ',e2,x3,x4,x5,rfl⟩:=bD (Φ:=Φ) (G:=G) (n:=n) (k:=.enum) (its:=[(.op2 .at (.var 0) (.cst (.int 0)))]) (tg:=[3,4]) (body:=[(.loop .rng [(.cst (.int 4))] [5] [(.ite (.leaf (.op2 .eq (.op2 .at (.var 4) (.var 5)) (.var 1))) [(.app 2 (.tup [(.var 3),(.var 5)]))] [])])]) (δ:=[some (false,d0),some (false,.int line),some (true,.lst (([]:List (Nat×Nat)).map pairD)),none,none,none]) (xs:=enumD 0 (Q.map rowD))
  (by rw[←hd];simp only[ev,evs,frz,leaks,leakss,rdR,rdV,Ze,Zf,Zk,Zn,Zq,yT,ZJ,a0];exact hit) (λi δ=>∃x3 x4 x5,δ=[some (false,d0),some (false,.int line),some (true,.lst ((placesN Q line i).map pairD)),x3,x4,x5]) ⟨none,none,none,rfl⟩ step
 rw[aD e2,aO,yI];show(xecs Φ G n _ [some (false,d0),some (false,.int line),some (true,.lst ((placesV Q line).map pairD)),x3,x4,x5]).val=_;by_cases hp:placesV Q line=[]
 ·rw[yM hp,hp]
  simp only[xecs,xec,evT,ev,frz,leaksT,leaks,rdR,rdV,Zb,Zc,Zf,Zk,Zl,Zn,yT,Zv,Zw,List.isEmpty_nil];rfl
 ·rw[yK hp]
  have:((placesV Q line).map pairD).isEmpty=false:=by
   cases e:placesV Q line with
   |nil=>exact absurd e hp
   |cons _ _=>rfl
  simp only[xecs,xec,evT,ev,frz,leaksT,leaks,rdR,rdV,Zb,Zc,Zf,Zk,Zl,yT,yX,yH,Zv,Zw,ZP,this];rfl
end
section
variable{Φ:Nat->List D->R D}{G:List D}{n:Nat}
noncomputable def Bwhole:List Sm:=[(.ret (.and (.op1 .isInt (.var 0)) (.not (.op1 .isBool (.var 0)))))]
theorem tW(x:Int):xecs Φ G n Bwhole [some (false,.int x)]=.rt (.bl true):=by
 simp only[Bwhole,xecs,xec,ev,frz,leaks,rdR,rdV,Zc,asB,Zf,Zk,Zq,yT,Zw,ZT,ZU]
end
noncomputable def numD(ks:List Int):D:=.dic ks (natL (List.range ks.length))
theorem kG:∀(ks:List Int)(vs:List D)(x:Int),x∈ks->vs.length=ks.length->lookD ks vs x=vs[ks.idxOf x]?
 |[],_,x,h,_=>by simp at h
 |k::ks,[],x,_,hl=>by simp at hl
 |k::ks,v::vs,x,h,hl=>by
  rw[lookD];by_cases e:k=x
  ·subst e;simp
  ·rw[yK e]
   have h':x∈ks:=(List.mem_cons.mp h).resolve_left (zL e);rw[kG ks vs x h' (by simpa using hl),List.idxOf_cons,show(k==x)=false by simpa using e];simp
theorem xG(h:x∈ks):lookD ks (natL (List.range ks.length)) x=some (.int (ks.idxOf x:Nat)):=by
 rw[kG ks _ x h (by simp[natL])];have:=List.idxOf_lt_length_iff.mpr h;simp[natL,this]
theorem dd_pre(acc xs:List Int):∃more,dd acc xs=acc++more:=by
 induction xs generalizing acc with
 |nil=>exact⟨[],by simp[dd]⟩
 |cons x r ih=>
  rw[dd];obtain⟨m,e⟩:=ih (if x∈acc then acc else acc++[x]);by_cases h:x∈acc
  ·rw[yM h] at e⊢;exact⟨m,e⟩
  ·rw[yK h] at e⊢;exact⟨x::m,by rw[e];simp⟩
theorem rT:∀{a b:List Int}{x:Int},x∈a->(a++b).idxOf x=a.idxOf x
 |[],_,_,h=>by simp at h
 |y::a,b,x,h=>by
  rw[List.cons_append,List.idxOf_cons,List.idxOf_cons];by_cases e:y=x
  ·subst e;simp
  ·rw[show(y==x)=false by simpa using e]
   simp only[cond_false];rw[rT ((List.mem_cons.mp h).resolve_left (zL e))]
theorem xH(h:x∈acc):(dd acc xs).idxOf x=acc.idxOf x:=by
 obtain⟨m,e⟩:=dd_pre acc xs;rw[e,rT h]
noncomputable def Bnum:List Sm:=[(.new 2),(.asg 3 (.lst [])),(.loop .seq [(.var 0)] [4] [(.loop .seq [(.var 4)] [5] [(.ite (.leaf (.din true (.var 5) (.var 2))) [(.dput 2 (.var 5) (.dlen (.var 2)))] [])]),(.app 3 (.op1 .tuple (.comp .seq [(.var 4)] [2] 1 none (.dget (.var 1) (.var 0)))))]),(.ret (.tup [(.op1 .tuple (.var 3)),(.var 1)]))]
section
variable{Φ:Nat->List D->R D}{G:List D}{n:Nat}
theorem tX(k:Nat):natL (List.range k)++[.int (k:Nat)]=natL (List.range (k+1)):=by simp[natL,aAS]
theorem nm_in(hl:acc.length+r.length<90000)(hr:r.length<=1000):
  ∃c5',xec Φ G n (.loop .seq [(.var 4)] [5] [(.ite (.leaf (.din true (.var 5) (.var 2))) [(.dput 2 (.var 5) (.dlen (.var 2)))] [])]) [some (false,d0),some (false,d1),some (true,numD acc),c3,some (false,rowD r),c5]=.nx [some (false,d0),some (false,d1),some (true,numD (dd acc r)),c3,some (false,rowD r),c5']:=by
 have hi:itemsD .seq [rowD r]=.ok (intL r):=cI (by simpa[intL] using hr);have step:∀i (h:i<(intL r).length) δ,(∃c,δ=[some (false,d0),some (false,d1),some (true,numD (dd acc (r.take i))),c3,some (false,rowD r),c])->∃δ',loopF Φ G n [5] [(.ite (.leaf (.din true (.var 5) (.var 2))) [(.dput 2 (.var 5) (.dlen (.var 2)))] [])] (intL r)[i] δ=.nx δ'/\∃c,δ'=[some (false,d0),some (false,d1),some (true,numD (dd acc (r.take (i+1)))),c3,some (false,rowD r),c]:=by
  rintro i h δ ⟨c,rfl⟩;have hi':i<r.length:=by simpa[intL] using h
  have ex:(intL r)[i]=.int r[i]:=by simp[intL]
  have et:r.take (i+1)=r.take i++[r[i]]:=zJ hi';have hd:dd acc (r.take (i+1))=if r[i]∈dd acc (r.take i) then dd acc (r.take i) else dd acc (r.take i)++[r[i]]:=by
   rw[et,iM];rfl
  rw[ex,hd];have hlen:(dd acc (r.take i)).length<LIM:=by
   have:=lH acc (r.take i);have h2:(r.take i).length<=r.length:=by rw[zO];omega
   have:LIM=100000:=rfl;omega
  generalize dd acc (r.take i)=ks at*;by_cases hm:r[i]∈ks
  ·rw[yM hm]
   refine⟨_,?_,some (false,.int r[i]),rfl⟩;simp only[loopF,numD,xecs,xec,evT,ev,frz,leaksT,leaks,rdR,rdV,Za,Zc,Py.sets,spread,Zf,Zi,Zj,Zk,Zl,Zq,yT,yX,yH,Zv,hm,decide_true,yJ,y7,zN]
  ·rw[yK hm]
   refine⟨_,?_,some (false,.int r[i]),rfl⟩;simp only[loopF,numD,xecs,xec,evT,ev,frz,leaksT,leaks,rdR,rdV,Za,Zc,Py.sets,spread,Zf,Zi,Zj,Zk,Zl,Zq,yT,yX,Zw,hm,aAT,yJ,y7,zN,ownM,dputD,hlen,tX,yY]
 obtain⟨δ',e,c,rfl⟩:=bD (Φ:=Φ) (G:=G) (n:=n) (k:=.seq) (its:=[(.var 4)]) (tg:=[5]) (body:=[(.ite (.leaf (.din true (.var 5) (.var 2))) [(.dput 2 (.var 5) (.dlen (.var 2)))] [])]) (δ:=[some (false,d0),some (false,d1),some (true,numD acc),c3,some (false,rowD r),c5]) (xs:=intL r) (by simp only[ev,evs,frz,frz1,leaks,leakss,rdR,rdV,Zf,Zk,Zl,Zq,yX,yH,hi])
  (λi δ=>∃c,δ=[some (false,d0),some (false,d1),some (true,numD (dd acc (r.take i))),c3,some (false,rowD r),c]) ⟨c5,rfl⟩ step
 refine⟨c,?_⟩;have hlr:(intL r).length=r.length:=by simp[intL]
 rw[hlr,zV] at e;exact e
theorem nm_row{names r:List Int}(hr:r.length<=1000)(hs:∀x∈r,x∈names)(h2:rdR δ 4=.ok (rowD r))(h1:δ[2]?=some (some (true,numD names))):
  ev Φ G m (.comp .seq [(.var 4)] [2] 1 none (.dget (.var 1) (.var 0))) δ=.ok (.lst (intL (r.map λx=>(names.idxOf x:Nat)))):=by
 have hi:itemsD .seq [rowD r]=.ok (intL r):=cI (by simpa[intL] using hr);simp only[ev,evs,yT,h2,aS,hi,capOf,yQ,aAO,h1,Option.getD_some];rw[bK (λx=>match x with|.int k=>.int (names.idxOf k:Nat)|_=>.non) _ λx hx=>?_]
 ·simp only[R.quiet_ok,aS]
  congr 2
  simp[intL,Function.comp_def]
 ·obtain⟨k,hk,rfl⟩:=List.mem_map.mp hx
  simp only[evO,rdR,spread,Ze,Zf,Zk,Zl,Zm,Zn,Zo,Zp,yT,numD,xG (hs k hk)]
theorem xI{rings:Int}{R:List (List Int)}(h0:itemsD .seq [d0]=.ok (R.map rowD))(hR:∀r∈R,r.length<=1000)(hl:R.flatten.length<=80000)(hL:R.length<=1000):
  xecs Φ G n Bnum [some (false,d0),some (false,.int rings),none,none,none,none]=.rt (.tup [.tup ((numV R).map rowD),.int rings]):=by
 unfold Bnum;have e1:xec Φ G n (.new 2) [some (false,d0),some (false,.int rings),none,none,none,none]=.nx [some (false,d0),some (false,.int rings),some (true,numD []),none,none,none]:=by simp only[xec,Zi,Zj];rfl
 have e2:xec Φ G n (.asg 3 (.lst [])) [some (false,d0),some (false,.int rings),some (true,numD []),none,none,none]=.nx [some (false,d0),some (false,.int rings),some (true,numD []),some (true,.lst []),none,none]:=by simp only[xec,ev,evs,frz,leaks,leakss,Zc,isOwn,frsh,Zf,Zi,Zj,Zt]
 rw[aD e1,aD e2];have step:∀i (h:i<(R.map rowD).length) δ,(∃c4 c5,δ=[some (false,d0),some (false,.int rings),some (true,numD (dd [] (R.take i).flatten)),some (true,.lst (((R.take i).map λr=>r.map λx=>(((dd [] R.flatten).idxOf x:Nat):Int)).map rowD)),c4,c5])->
   ∃δ',loopF Φ G n [4] [(.loop .seq [(.var 4)] [5] [(.ite (.leaf (.din true (.var 5) (.var 2))) [(.dput 2 (.var 5) (.dlen (.var 2)))] [])]),(.app 3 (.op1 .tuple (.comp .seq [(.var 4)] [2] 1 none (.dget (.var 1) (.var 0)))))] (R.map rowD)[i] δ=.nx δ'/\∃c4 c5,δ'=[some (false,d0),some (false,.int rings),some (true,numD (dd [] (R.take (i+1)).flatten)),some (true,.lst (((R.take (i+1)).map λr=>r.map λx=>(((dd [] R.flatten).idxOf x:Nat):Int)).map rowD)),c4,c5]:=by
  rintro i h δ ⟨c4,c5,rfl⟩;have hi:i<R.length:=by simpa using h
  have et:R.take (i+1)=R.take i++[R[i]]:=zJ hi;have hr:=hR R[i] (zS hi);have hfl:(R.take i).flatten.length<=R.flatten.length:=by
   conv=>rhs;rw[←List.take_append_drop i R]
   rw[List.flatten_append,yY];omega
  have hdl:=lH [] (R.take i).flatten;have ed:dd [] (R.take (i+1)).flatten=dd (dd [] (R.take i).flatten) R[i]:=by rw[et,List.flatten_append,iM];simp
  have efull:dd [] R.flatten=dd (dd [] (R.take (i+1)).flatten) (R.drop (i+1)).flatten:=by
   rw[←iM,←List.flatten_append,List.take_append_drop]
  have hs:∀x∈R[i],x∈dd [] (R.take (i+1)).flatten:=λx hx=>by
   rw[ed,e9];exact .inr hx
  have hrow:(R[i].map λx=>((dd [] (R.take (i+1)).flatten).idxOf x:Nat))=(R[i].map λx=>((dd [] R.flatten).idxOf x:Nat)):=by
   refine aAE λx hx=>?_;rw[efull,xH (hs x hx)]
  obtain⟨c5',e⟩:=nm_in (Φ:=Φ) (G:=G) (n:=n) (d0:=d0) (d1:=.int rings) (c3:=some (true,.lst (((R.take i).map λr=>r.map λx=>(((dd [] R.flatten).idxOf x:Nat):Int)).map rowD))) (c5:=c5) (acc:=dd [] (R.take i).flatten) (r:=R[i]) (by rw[y7] at hdl;omega) hr;have hlen:(((R.take i).map λr=>r.map λx=>(((dd [] R.flatten).idxOf x:Nat):Int)).map rowD).length<LIM:=by
   simp only[yI,zO];have:LIM=100000:=rfl;omega
  rw[←ed] at e;have ec:=nm_row (m:=true) (Φ:=Φ) (G:=G) (names:=dd [] (R.take (i+1)).flatten) (r:=R[i]) (δ:=[some (false,d0),some (false,.int rings),some (true,numD (dd [] (R.take (i+1)).flatten)),some (true,.lst (((R.take i).map λr=>r.map λx=>(((dd [] R.flatten).idxOf x:Nat):Int)).map rowD)),some (false,rowD R[i]),c5']) hr hs rfl rfl;have ec2:ev Φ G false (.op1 .tuple (.comp .seq [(.var 4)] [2] 1 none (.dget (.var 1) (.var 0)))) [some (false,d0),some (false,.int rings),some (true,numD (dd [] (R.take (i+1)).flatten)),some (true,.lst (((R.take i).map λr=>r.map λx=>(((dd [] R.flatten).idxOf x:Nat):Int)).map rowD)),some (false,rowD R[i]),c5']=.ok (rowD (R[i].map λx=>(((dd [] R.flatten).idxOf x:Nat):Int))):=by
   rw[ev,ec];have:(R[i].map λx=>(((dd [] (R.take (i+1)).flatten).idxOf x:Nat):Int))=(R[i].map λx=>(((dd [] R.flatten).idxOf x:Nat):Int)):=by
    refine aAE λx hx=>?_;rw[efull,xH (hs x hx)]
   rw[this];rfl
  refine⟨_,?_,some (false,rowD R[i]),c5',rfl⟩;rw[List.getElem_map];simp only[loopF,spread,yJ,y7,zN,Py.sets,aAN,aAJ];rw[aD e,aD (lG rfl ec2 rfl hlen)];simp only[xecs,aAN,aAJ,et,zW,yQ,aAO]
 obtain⟨δ',e3,c4,c5,rfl⟩:=bD (Φ:=Φ) (G:=G) (n:=n) (k:=.seq) (its:=[(.var 0)]) (tg:=[4]) (body:=[(.loop .seq [(.var 4)] [5] [(.ite (.leaf (.din true (.var 5) (.var 2))) [(.dput 2 (.var 5) (.dlen (.var 2)))] [])]),(.app 3 (.op1 .tuple (.comp .seq [(.var 4)] [2] 1 none (.dget (.var 1) (.var 0)))))]) (δ:=[some (false,d0),some (false,.int rings),some (true,numD []),some (true,.lst []),none,none]) (xs:=R.map rowD) (by simp only[ev,evs,frz,frz1,leaks,leakss,rdR,rdV,Zf,Zk,Zq,yX,yH];exact h0)
  (λi δ=>∃c4 c5,δ=[some (false,d0),some (false,.int rings),some (true,numD (dd [] (R.take i).flatten)),some (true,.lst (((R.take i).map λr=>r.map λx=>(((dd [] R.flatten).idxOf x:Nat):Int)).map rowD)),c4,c5]) ⟨none,none,rfl⟩ step
 rw[aD e3];simp only[xecs,xec,ev,evs,frz,frz1,leaks,leakss,rdR,rdV,Zc,Zf,Zk,Zl,Zo,Zq,yT,yX,yH,ZP,yI,zV,numV]
theorem n5(n:Nat)(r:List Int):plns n (intL r)=true:=by
 induction r with
 |nil=>rfl
 |cons x r ih=>exact ih
theorem tY(n:Nat)(Q:List (List Int)):plns (n+1) (Q.map rowD)=true:=by
 induction Q with
 |nil=>rfl
 |cons r Q ih=>
  show(pln (n+1) (rowD r)&&plns (n+1) (Q.map rowD))=true;rw[ih];show((decide (0<n+1)&&plns n (intL r))&&true)=true;rw[n5];simp
theorem tZ(r:List Int):op1 .isTup (rowD r)=.ok (.bl true):=o_isTt _ (n5 999 r)
end
noncomputable def shD(Q:List (List Int))(g:Int):D:=.tup [.tup (Q.map rowD),.int g]
theorem rV{R:List (List Int)}(h4:∀r∈R,r.length=4):R.flatten.length<=4*R.length:=by
 induction R with
 |nil=>simp
 |cons r R ih=>
  have:=ih λx hx=>h4 x (yR _ hx);have h:=h4 r yZ;simp only[List.flatten_cons,yY,yJ];omega
theorem row4{r:List Int}(h:r.length=4):∃a b c d,r=[a,b,c,d]:=by
 match r,h with
 |[a,b,c,d],_=>exact⟨a,b,c,d,rfl⟩
section
variable{Φ:Nat->List D->R D}{G:List D}{n:Nat}
theorem eD{α:Type}{a:α->D}{xs:List α}(f:α->D)(h:(evs Φ G true its δ).bind (itemsD k)=.ok (xs.map a))(hf:∀x∈xs,ev Φ G false elt (some (false,a x)::capOf δ caps)=.ok (f x)):
  ev Φ G m (.comp k its caps 1 none elt) δ=.ok (.lst (xs.map f)):=by
 rw[ev]
 cases e:evs Φ G true its δ with
 |ok ss=>
  rw[e] at h;have h:itemsD k ss=.ok (xs.map a):=h;rw[aS,h,aS];have key:∀ys:List α,(∀x∈ys,x∈xs)->compM (λx=>match spread 1 x with
    |none=>.bad
    |some ts=>(evO Φ G none (ts.map (λt=>some (false,t))++capOf δ caps)).bind λb=>if b then(ev Φ G false elt (ts.map (λt=>some (false,t))++capOf δ caps)).bind λy=>.ok (some y) else .ok none) (ys.map a)=.ok (ys.map f):=by
   intro ys
   induction ys with
   |nil=>intro _;rfl
   |cons y ys ih=>
    intro hs;have e1:=hf y (hs y yZ);rw[yQ,compM,ih λx hx=>hs x (yR _ hx)];simp only[spread,evO,aS,yQ,aAO,List.cons_append,List.nil_append,yT,e1]
  exact congrArg (λz:R (List D)=>(R.quiet z).bind λys=>R.ok (D.lst ys)) (key xs λ_ h=>h)
 |exc c=>rw[e] at h;cases h
 |bad=>rw[e] at h;cases h
theorem bF(h:xec Φ G n s δ=.rt d):xecs Φ G n (s::ss) δ=.rt d:=by rw[xecs,h]
end
theorem at2_0(a b:α):atD [a,b] 0=some a:=rfl
theorem at2_1(a b:α):atD [a,b] 1=some b:=rfl
theorem xJ(h:p∈placesV Q line):p.1<Q.length/\p.2<4/\(Q.getD p.1 []).getD p.2 0=line:=by
 simp only[placesV,placesN,placesR,List.mem_flatMap,List.mem_range,List.mem_map,List.mem_filter] at h;obtain⟨k,hk,e,⟨he,hv⟩,rfl⟩:=h;exact⟨hk,he,by simpa using hv⟩
theorem Sheet.two_of(s:Sheet Q m)(h:placesV Q x≠[]):(0<=x/\x<(2*m:Nat))/\∃a b,placesV Q x=[a,b]:=by
 by_cases hr:x<0\/(2*m:Nat)<=x
 ·exact absurd (s.none hr) h
 ·refine⟨by omega,?_⟩
  have:=s.places (v:=x.toNat) (by omega);rw[show((x.toNat:Nat):Int)=x by omega] at this
  match placesV Q x,this with
  |[a,b],_=>exact⟨a,b,rfl⟩
noncomputable def okP(m:Nat)(p:Nat×Nat):Prop:=p.1<m/\p.2<4
noncomputable def lineV(Q:List (List Int))(p:Nat×Nat):Int:=(Q.getD p.1 []).getD p.2 0
noncomputable def oppV(p:Nat×Nat):Nat×Nat:=(p.1,(p.2+2)%4)
noncomputable def mateV(Q:List (List Int))(p:Nat×Nat):Nat×Nat:=match placesV Q (lineV Q p) with
 |[a,b]=>if a=p then b else a
 |_=>p
theorem dA(h:okP m p):okP m (oppV p):=⟨h.1,Nat.mod_lt _ (by decide)⟩
theorem lL(h:okP m p):oppV (oppV p)=p:=by
 have:=h.2;refine Prod.ext rfl ?_;show((p.2+2)%4+2)%4=p.2;omega
theorem places_mem:p∈placesV Q line↔okP Q.length p/\lineV Q p=line:=by
 constructor
 ·intro h
  obtain⟨a,b,c⟩:=xJ h;exact⟨⟨a,b⟩,c⟩
 ·rintro⟨⟨h1,h2⟩,h3⟩
  simp only[placesV,placesN,placesR,List.mem_flatMap,List.mem_range,List.mem_map,List.mem_filter];exact⟨p.1,h1,p.2,⟨h2,by simpa[lineV] using h3⟩,rfl⟩
theorem lM(Q:List (List Int))(line:Int):(placesV Q line).Nodup:=by
 unfold placesV placesN List.Nodup;rw[List.pairwise_flatMap];constructor
 ·intro k _
  unfold placesR;rw[List.pairwise_map];refine List.Pairwise.imp ?_ (List.Pairwise.filter _ List.nodup_range);intro a b hab e;exact hab (congrArg Prod.snd e)
 ·refine List.Pairwise.imp ?_ List.nodup_range
  intro a b hab x hx y hy e;unfold placesR at hx hy;obtain⟨_,_,rfl⟩:=List.mem_map.mp hx;obtain⟨_,_,rfl⟩:=List.mem_map.mp hy;exact hab (congrArg Prod.fst e)
theorem Sheet.pair(s:Sheet Q m)(h:okP m p):∃q,mateV Q p=q/\q≠p/\okP m q/\lineV Q q=lineV Q p/\(placesV Q (lineV Q p)=[p,q]\/placesV Q (lineV Q p)=[q,p]):=by
 have hp:p∈placesV Q (lineV Q p):=places_mem.mpr ⟨by rw[s.len];exact h,rfl⟩;obtain⟨_,a,b,hab⟩:=s.two_of (λe=>by rw[e] at hp;cases hp);have nd:=lM Q (lineV Q p);have ma:a∈placesV Q (lineV Q p):=by rw[hab];simp
 have mb:b∈placesV Q (lineV Q p):=by rw[hab];simp
 have ka:=places_mem.mp ma;have kb:=places_mem.mp mb;rw[s.len] at ka kb;rw[hab] at hp nd;have ne:a≠b:=by
  have:=List.pairwise_cons.mp nd;exact this.1 b (by simp)
 have e:mateV Q p=if a=p then b else a:=by unfold mateV;rw[hab]
 by_cases hap:a=p
 ·rw[yM hap] at e
  subst hap;exact⟨b,e,ne.symm,kb.1,kb.2,.inl hab⟩
 ·rw[yK hap] at e
  have hb:p=b:=by
   rcases List.mem_cons.mp hp with h|h
   ·exact absurd h.symm hap
   ·exact List.mem_singleton.mp h
  subst hb;exact⟨a,e,ne,ka.1,ka.2,.inr hab⟩
section
variable{Q:List (List Int)}{m:Nat}(s:Sheet Q m)
include s
theorem Sheet.mate_ok(h:okP m p):okP m (mateV Q p):=by obtain⟨q,e,_,h2,_⟩:=s.pair h;rw[e];exact h2
theorem Sheet.mate_ne(h:okP m p):mateV Q p≠p:=by obtain⟨q,e,h1,_⟩:=s.pair h;rw[e];exact h1
theorem Sheet.mate_line(h:okP m p):lineV Q (mateV Q p)=lineV Q p:=by obtain⟨q,e,_,_,h3,_⟩:=s.pair h;rw[e];exact h3
theorem Sheet.mate_only(h:okP m p)(hq:okP m q)(e:lineV Q q=lineV Q p):q=p\/q=mateV Q p:=by
 obtain⟨r,er,_,_,_,hr⟩:=s.pair h;have:q∈placesV Q (lineV Q p):=places_mem.mpr ⟨by rw[s.len];exact hq,e⟩;rw[er];rcases hr with h|h<;>rw[h] at this<;>simp at this<;>rcases this with h|h<;>simp[h]
theorem Sheet.mate_mate(h:okP m p):mateV Q (mateV Q p)=p:=by
 have h1:=s.mate_ok h;rcases s.mate_only h1 h (s.mate_line h).symm with e|e
 ·exact absurd e.symm (s.mate_ne h)
 ·exact e.symm
omit s in
noncomputable def onV(Q:List (List Int))(p:Nat×Nat):Nat×Nat:=mateV Q (oppV p)
omit s in
noncomputable def walkV(Q:List (List Int))(p:Nat×Nat):Nat->Nat×Nat
 |0=>p
 |j+1=>onV Q (walkV Q p j)
theorem Sheet.on_ok(h:okP m p):okP m (onV Q p):=s.mate_ok (dA h)
theorem Sheet.walk_ok(h:okP m p):∀j,okP m (walkV Q p j)
 |0=>h
 |j+1=>s.on_ok (Sheet.walk_ok h j)
theorem Sheet.on_inj(hp:okP m p)(hq:okP m q)(e:onV Q p=onV Q q):p=q:=by
 have:=congrArg (mateV Q) e;unfold onV at this;rw[s.mate_mate (dA hp),s.mate_mate (dA hq)] at this;rw[←lL hp,this,lL hq]
end
theorem kH{α:Type}[DecidableEq α]:∀{l l':List α},l.Nodup->(∀x∈l,x∈l')->l.length<=l'.length
 |[],_,_,_=>Nat.zero_le _
 |a::t,l',nd,h=>by
  have nd':=List.nodup_cons.mp nd;have ha:=h a (by simp);have:=kH (l:=t) (l':=l'.erase a) nd'.2 λx hx=>(List.mem_erase_of_ne (λe=>nd'.1 (by rw[←show x=a from e];exact hx))).mpr (h x (by simp[hx]));rw[List.length_erase_of_mem ha] at this;have:0<l'.length:=List.length_pos_of_mem ha;simp only[yJ];omega
theorem least{P:Nat->Prop}:∀j,P j->∃i,i<=j/\P i/\∀k,k<i->¬P k:=λj=>by
 induction j using Nat.strongRecOn with
 |ind j ih=>
  intro h;by_cases c:∃k,k<j/\P k
  ·obtain⟨k,hk,pk⟩:=c
   obtain⟨i,a,b,d⟩:=ih k hk pk;exact⟨i,by omega,b,d⟩
  ·exact⟨j,yP _,h,λk hk pk=>c ⟨k,hk,pk⟩⟩
noncomputable def allP(m:Nat):List (Nat×Nat):=(List.range m).flatMap λk=>(List.range 4).map λe=>(k,e)
theorem xK(h:okP m p):p∈allP m:=by
 simp only[allP,List.mem_flatMap,List.mem_range,List.mem_map];exact⟨p.1,h.1,p.2,h.2,rfl⟩
theorem xM(m:Nat):(allP m).length=4*m:=by
 induction m with
 |zero=>rfl
 |succ m ih=>
  rw[allP,show List.range (m+1)=List.range m++[m] from aAS,List.flatMap_append,yY];rw[allP] at ih;rw[ih];simp;omega
theorem Sheet.back(s:Sheet Q m)(h:okP m p):∃t,t<4*m/\walkV Q p (t+1)=p/\∀j,j<t->walkV Q p (j+1)≠p:=by
 have hit:∃j,j<4*m/\walkV Q p (j+1)=p:=by
  refine Classical.byContradiction λhc=>?_;have inj:∀i d,walkV Q p i=walkV Q p (i+d)->walkV Q p d=p:=by
   intro i
   induction i with
   |zero=>intro d e;rw[zN] at e;exact e.symm
   |succ i ih=>
    intro d e;refine ih d (s.on_inj (s.walk_ok h i) (s.walk_ok h (i+d)) ?_);rw[show i+1+d=(i+d)+1 by omega] at e;exact e
  have nd:((List.range (4*m+1)).map (walkV Q p)).Nodup:=by
   unfold List.Nodup;rw[List.pairwise_map];refine List.Pairwise.imp_of_mem ?_ List.pairwise_lt_range;intro a b ha hb hab e;have hb':=List.mem_range.mp hb;have:=inj a (b-a) (by rw[show a+(b-a)=b by omega];exact e);exact hc ⟨b-a-1,by omega,by rw[show b-a-1+1=b-a by omega];exact this⟩
  have:=kH nd (l':=allP m) λx hx=>by
   obtain⟨j,_,rfl⟩:=List.mem_map.mp hx;exact xK (s.walk_ok h j)
  rw[xM,yI,List.length_range] at this;omega
 obtain⟨j,hj,e⟩:=hit;obtain⟨t,ht,e',hm⟩:=least (P:=λj=>walkV Q p (j+1)=p) j e;exact⟨t,by omega,e',hm⟩
noncomputable def retW(Q:List (List Int))(a:Nat×Nat)(j:Nat):Nat×Nat:=walkV Q (oppV a) (j+1)
structure Ret(Q:List (List Int))(m:Nat)(a c:Nat×Nat)(t:Nat):Prop where
 hit:retW Q a t=c
 home:c.1=a.1
 first:∀j,j<t->(retW Q a j).1≠a.1
theorem Sheet.ret(s:Sheet Q m)(h:okP m a):∃t c,t<4*m/\Ret Q m a c t:=by
 obtain⟨t,ht,e,_⟩:=s.back (dA h);obtain⟨i,hi,hp,hm⟩:=least (P:=λj=>(retW Q a j).1=a.1) t (by show(walkV Q (oppV a) (t+1)).1=a.1;rw[e];rfl);exact⟨i,_,by omega,rfl,hp,hm⟩
theorem Sheet.ret_zero(s:Sheet Q m)(h:okP m a):retW Q a 0=mateV Q a:=by
 show mateV Q (oppV (oppV a))=_;rw[lL h]
theorem Sheet.ret_ok(s:Sheet Q m)(h:okP m a)(j:Nat):okP m (retW Q a j):=s.walk_ok (dA h) _
noncomputable def turnV(e:Nat):Int:=if e=3 then 1 else if e=1 then-1 else 0
structure JS where
 left:List (List Int)
 g:Int
 w:List (List Int)
noncomputable def stpJ(s:JS):JS:=match s.w with
 |(a::b::_)::ps=>⟨s.left.map (ren b a),if a=b then s.g+1 else s.g,ps.map (ren b a)⟩
 |_=>s
noncomputable def iterJ(s:JS):Nat->JS
 |0=>s
 |k+1=>stpJ (iterJ s k)
noncomputable def joinV(L:List (List Int))(g:Int)(P:List (List Int)):List (List Int)×Int:=((iterJ ⟨L,g,P⟩ P.length).left,(iterJ ⟨L,g,P⟩ P.length).g)
theorem dB(old new:Int)(r:List Int):(ren old new r).length=r.length:=by simp[ren]
structure JOk(c np k:Nat)(s:JS):Prop where
 len:s.left.length=c
 four:∀r∈s.left,r.length=4
 wl:s.w.length=np-k
 two:∀r∈s.w,r.length=2
theorem JOk.head(h:JOk c np k s)(hk:k<np):∃a b ps,s.w=[a,b]::ps/\stpJ s=⟨s.left.map (ren b a),if a=b then s.g+1 else s.g,ps.map (ren b a)⟩/\JOk c np (k+1) (stpJ s):=by
 match hw:s.w with
 |[]=>have:=h.wl;rw[hw] at this;simp at this;omega
 |q::ps=>
  have h2:=h.two q (by rw[hw];simp)
  match q,h2 with
  |[a,b],_=>
   have e:stpJ s=⟨s.left.map (ren b a),if a=b then s.g+1 else s.g,ps.map (ren b a)⟩:=by unfold stpJ;rw[hw]
   refine⟨a,b,ps,rfl,e,?_⟩;rw[e];refine⟨by simp[h.len],λr hr=>?_,?_,λr hr=>?_⟩
   ·obtain⟨q,hq,rfl⟩:=List.mem_map.mp hr
    rw[dB];exact h.four q hq
   ·have:=h.wl
    rw[hw] at this;simp only[yJ,yI] at this⊢;omega
   ·obtain⟨q,hq,rfl⟩:=List.mem_map.mp hr
    rw[dB];exact h.two q (by rw[hw];exact yR _ hq)
theorem JOk.iter(h:JOk c np 0 s):∀k,k<=np->JOk c np k (iterJ s k)
 |0,_=>h
 |k+1,hk=>by
  obtain⟨_,_,_,_,_,z⟩:=(JOk.iter h k (by omega)).head (by omega);exact z
theorem JOk.start(g:Int)(h4:∀r∈L,r.length=4)(h2:∀r∈P,r.length=2):JOk L.length P.length 0 ⟨L,g,P⟩:=⟨rfl,h4,rfl,h2⟩
theorem n6(h4:∀r∈L,r.length=4)(h2:∀r∈P,r.length=2):(joinV L g P).1.length=L.length/\∀r∈(joinV L g P).1,r.length=4:=by
 have:=(JOk.start g h4 h2).iter P.length (yP _);exact⟨this.len,this.four⟩
theorem kI:∀r:List Int,intsI (intL r)=some r
 |[]=>rfl
 |x::r=>by
  show(intsI (intL r)).map (x::·)=_;rw[kI r];rfl
theorem fA:∀R:List (List Int),rowsI (R.map rowD)=some R
 |[]=>rfl
 |r::R=>by
  show(intsI (intL r)).bind (λq=>(rowsI (R.map rowD)).map (q::·))=_;rw[kI,fA R];rfl
section
variable{Φ:Nat->List D->R D}{G:List D}{n:Nat}
noncomputable def Brenamed:List Sm:=[(.ret (.comp .seq [(.var 0)] [2,1] 1 none (.op1 .tuple (.comp .seq [(.var 0)] [1,2] 1 none (.ite (.leaf (.op2 .eq (.var 0) (.var 2))) (.var 1) (.var 0))))))]
theorem n8{R:List (List Int)}(hR:R.length<=1000)(hr:∀r∈R,r.length<=1000):xecs Φ G n Brenamed [some (false,.lst (R.map rowD)),some (false,.int old),some (false,.int new)]=.rt (.lst ((R.map (ren old new)).map rowD)):=by
 unfold Brenamed;refine bF (cJ ?_);have e:=eD (Φ:=Φ) (G:=G) (m:=false) (k:=.seq) (its:=[(.var 0)]) (caps:=[2,1]) (elt:=(.op1 .tuple (.comp .seq [(.var 0)] [1,2] 1 none (.ite (.leaf (.op2 .eq (.var 0) (.var 2))) (.var 1) (.var 0))))) (δ:=[some (false,.lst (R.map rowD)),some (false,.int old),some (false,.int new)]) (a:=rowD) (xs:=R) (λr=>rowD (ren old new r))
  (by simp only[ev,evs,rdR,rdV,Zf,Zk,yT];exact aT (by simpa using hR)) λr h=>?_
 ·rw[zY];exact e
 ·have e2:=eD (Φ:=Φ) (G:=G) (m:=true) (k:=.seq) (its:=[(.var 0)]) (caps:=[1,2]) (elt:=(.ite (.leaf (.op2 .eq (.var 0) (.var 2))) (.var 1) (.var 0))) (δ:=[some (false,rowD r),some (false,.int new),some (false,.int old)]) (a:=D.int) (xs:=r) (λx=>.int (if x=old then new else x))
   (by simp only[ev,evs,rdR,rdV,Zf,Zk,yT];exact cI (by simpa[intL] using hr r h)) λx _=>?_
  ·rw[ev]
   show(ev Φ G true _ [some (false,rowD r),some (false,.int new),some (false,.int old)]).bind _=_;rw[e2];show Py.R.ok _=_;rw[rowD,ren,intL,zY];rfl
  ·by_cases hc:x=old
   ·have q:(x==old)=true:=by simpa using hc
    simp only[evT,ev,rdR,rdV,Za,capOf,Zf,Zk,Zl,Zm,Zn,yT,yX,yH,Zx,ZG,q,yM hc]
   ·have q:(x==old)=false:=by simpa using hc
    simp only[evT,ev,rdR,rdV,Za,capOf,Zf,Zk,Zl,Zm,Zn,yT,yX,yH,Zx,ZG,q,yK hc]
noncomputable def BjoinT(r:Nat):List Sm:=[(.asg 5 (.op2 .at (.op2 .at (.var 4) (.cst (.int 0))) (.cst (.int 0)))),(.asg 6 (.op2 .at (.op2 .at (.var 4) (.cst (.int 0))) (.cst (.int 1)))),(.ite (.leaf (.op2 .eq (.var 5) (.var 6))) [(.asg 1 (.op2 .add (.var 1) (.cst (.int 1))))] []),(.asg 3 (.call r [(.var 3),(.var 6),(.var 5)])),(.asg 4 (.call r [(.slc (.var 4) (some (.cst (.int 1))) none),(.var 6),(.var 5)]))]
noncomputable def Bjoined(r q:Nat):List Sm:=[(.asg 3 (.op1 .list (.var 0))),(.asg 4 (.op1 .list (.var 2))),(.whl (.leaf (.var 4)) (BjoinT r)),(.ret (.call q [(.var 3),(.var 1)]))]
theorem t8{lf ps:List (List Int)}(hr:∀(R:List (List Int))(old new:Int),R.length<=1000->(∀x∈R,x.length<=1000)->Φ r [.lst (R.map rowD),.int old,.int new]=.ok (.lst ((R.map (ren old new)).map rowD)))
  (l1:lf.length<=1000) (l2:∀x∈lf,x.length<=1000) (l3:ps.length<=1000) (l4:∀x∈ps,x.length<=1000):
  xecs Φ G n (BjoinT r) [some (false,d0),some (false,.int g),some (false,d2),some (o3,.lst (lf.map rowD)),some (o4,.lst (([a,b]::ps).map rowD)),c5,c6]=
  .nx [some (false,d0),some (false,.int (if a=b then g+1 else g)),some (false,d2),some (false,.lst ((lf.map (ren b a)).map rowD)),some (false,.lst ((ps.map (ren b a)).map rowD)),some (false,.int a),some (false,.int b)]:=by
 have h1:=hr lf b a l1 l2;have h2:=hr ps b a l3 l4;have a0:∀(x:D)(y:List D),atD (x::y) 0=some x:=λx y=>at_nat (xs:=x::y) (i:=0) (by simp);have a1:∀(x y:D),atD [x,y] 1=some y:=λx y=>rfl;have c1:∀(x:D)(y:List D),cut (x::y) (some 1) none=y:=λx y=>cut_from (x::y) 1;generalize lf.map rowD=X at*;generalize (lf.map (ren b a)).map rowD=X' at*;rw[yQ];generalize ps.map rowD=Y at*;generalize (ps.map (ren b a)).map rowD=Y' at*;have er:rowD [a,b]=.tup [.int a,.int b]:=rfl;unfold BjoinT;by_cases hc:a=b
 ·have q:(a==b)=true:=by simpa using hc
  cases o3<;>cases o4<;>simp only[xecs,xec,evT,ev,evs,evP,frz,frz1,leaksT,leaks,leakss,leaksP,rdR,rdV,Za,Zc,asI,isOwn,frsh,slc,Ze,Zf,Zi,Zj,Zk,Zl,Zo,Zp,Zq,yT,yX,yH,Zt,Zu,ZA,ZG,ZI,ZJ,er,a0,a1,q,h1,h2,c1,yM hc]
 ·have q:(a==b)=false:=by simpa using hc
  cases o3<;>cases o4<;>simp only[xecs,xec,evT,ev,evs,evP,frz,frz1,leaksT,leaks,leakss,leaksP,rdR,rdV,Za,Zc,asI,isOwn,frsh,slc,Ze,Zf,Zi,Zj,Zk,Zl,Zo,Zp,Zq,yT,yX,yH,Zt,Zu,ZA,ZG,ZI,ZJ,er,a0,a1,q,h1,h2,c1,yK hc]
noncomputable def hdJ(f:Nat)(s:JS):Nat->Slot
 |0=>none
 |i+1=>some (false,.int (((iterJ s i).w.getD 0 []).getD f 0))
theorem pW(hr:∀(R:List (List Int))(old new:Int),R.length<=1000->(∀x∈R,x.length<=1000)->Φ r [.lst (R.map rowD),.int old,.int new]=.ok (.lst ((R.map (ren old new)).map rowD)))
  (hq:∀(R:List (List Int))(g:Int),(∀x∈R,x.length=4)->R.length<=50->Φ q [.lst (R.map rowD),.int g]=.ok (shD (numV R) g)) (h4:∀r∈L,r.length=4) (h2:∀r∈P,r.length=2) (hL:L.length<=50) (hP:P.length<=50) (hn:100<n):
  xecs Φ G n (Bjoined r q) [some (false,.lst (L.map rowD)),some (false,.int g),some (false,.lst (P.map rowD)),none,none,none,none]=.rt (shD (numV (joinV L g P).1) (joinV L g P).2):=by
 obtain⟨j1,j2⟩:=n6 h4 h2 (g:=g);have st:=JOk.start g h4 h2;unfold Bjoined;have e1:xec Φ G n (.asg 3 (.op1 .list (.var 0))) [some (false,.lst (L.map rowD)),some (false,.int g),some (false,.lst (P.map rowD)),none,none,none,none]=.nx [some (false,.lst (L.map rowD)),some (false,.int g),some (false,.lst (P.map rowD)),some (true,.lst (L.map rowD)),none,none,none]:=by simp only[xec,ev,frz,leaks,rdR,rdV,Zc,isOwn,frsh,Zf,Zi,Zj,Zk,yT,Zt,ZR]
 have e2:xec Φ G n (.asg 4 (.op1 .list (.var 2))) [some (false,.lst (L.map rowD)),some (false,.int g),some (false,.lst (P.map rowD)),some (true,.lst (L.map rowD)),none,none,none]=.nx [some (false,.lst (L.map rowD)),some (false,.int g),some (false,.lst (P.map rowD)),some (true,.lst (L.map rowD)),some (true,.lst (P.map rowD)),none,none]:=by simp only[xec,ev,frz,leaks,rdR,rdV,Zc,isOwn,frsh,Zf,Zi,Zj,Zk,Zl,yT,Zt,ZR]
 let d:Nat->Sto:=λi=>[some (false,.lst (L.map rowD)),some (false,.int (iterJ ⟨L,g,P⟩ i).g),some (false,.lst (P.map rowD)),some (decide (i=0),.lst ((iterJ ⟨L,g,P⟩ i).left.map rowD)),some (decide (i=0),.lst ((iterJ ⟨L,g,P⟩ i).w.map rowD)),hdJ 0 ⟨L,g,P⟩ i,hdJ 1 ⟨L,g,P⟩ i]
 have ew:xec Φ G n (.whl (.leaf (.var 4)) (BjoinT r)) (d 0)=.nx (d P.length):=by
  have z:=d9 (c:=evT Φ G (.leaf (.var 4))) (fz:=frz (leaksT (.leaf (.var 4)))) (b:=xecs Φ G n (BjoinT r)) P.length n d (by omega) (λi hi=>?_) ?_
  ·simpa only[xec,leaksT,leaks,frz,yT] using z
  ·have ok:=st.iter i (by omega)
   obtain⟨a,b,ps,hw,es,ok'⟩:=ok.head hi;refine⟨?_,?_⟩
   ·simp only[evT,ev,frz,leaksT,leaks,rdR,rdV,Zb,Zf,Zk,Zl,Zm,yT,d,hw]
    rfl
   ·have hps:ps.length<=50:=by have:=ok.wl;rw[hw] at this;simp only[yJ] at this;omega
    have t:=t8 (Φ:=Φ) (G:=G) (n:=n) (r:=r) (d0:=.lst (L.map rowD)) (d2:=.lst (P.map rowD)) (lf:=(iterJ ⟨L,g,P⟩ i).left) (ps:=ps) (a:=a) (b:=b) (g:=(iterJ ⟨L,g,P⟩ i).g) (o3:=decide (i=0)) (o4:=decide (i=0)) (c5:=hdJ 0 ⟨L,g,P⟩ i) (c6:=hdJ 1 ⟨L,g,P⟩ i) hr
     (by rw[ok.len];omega) (λx hx=>by rw[ok.four x hx];decide) (by omega) (λx hx=>by rw[ok.two x (by rw[hw];exact yR _ hx)];decide)
    have ed:d (i+1)=[some (false,.lst (L.map rowD)),some (false,.int (if a=b then(iterJ ⟨L,g,P⟩ i).g+1 else(iterJ ⟨L,g,P⟩ i).g)),some (false,.lst (P.map rowD)),some (false,.lst (((iterJ ⟨L,g,P⟩ i).left.map (ren b a)).map rowD)),some (false,.lst ((ps.map (ren b a)).map rowD)),some (false,.int a),some (false,.int b)]:=by
     show[_,some (false,.int (stpJ (iterJ ⟨L,g,P⟩ i)).g),_,some (decide (i+1=0),.lst ((stpJ (iterJ ⟨L,g,P⟩ i)).left.map rowD)),some (decide (i+1=0),.lst ((stpJ (iterJ ⟨L,g,P⟩ i)).w.map rowD)),hdJ 0 ⟨L,g,P⟩ (i+1),hdJ 1 ⟨L,g,P⟩ (i+1)]=_;rw[es];simp only[hdJ,hw];rfl
    rw[ed,←t];show xecs Φ G n (BjoinT r) (d i)=_;simp only[d,hw]
  ·have ok:=st.iter P.length (yP _)
   have e0:(iterJ ⟨L,g,P⟩ P.length).w=[]:=List.eq_nil_of_length_eq_zero (by rw[ok.wl];omega);simp only[evT,ev,frz,leaksT,leaks,rdR,rdV,Zb,Zf,Zk,Zl,Zn,yT,d,e0];rfl
 rw[aD e1,aD e2];show xecs Φ G n _ (d 0)=_;rw[aD ew];have hq':=hq (joinV L g P).1 (joinV L g P).2 j2 (by omega);have ef:d P.length=[some (false,.lst (L.map rowD)),some (false,.int (joinV L g P).2),some (false,.lst (P.map rowD)),some (decide (P.length=0),.lst ((joinV L g P).1.map rowD)),some (decide (P.length=0),.lst ((iterJ ⟨L,g,P⟩ P.length).w.map rowD)),hdJ 0 ⟨L,g,P⟩ P.length,hdJ 1 ⟨L,g,P⟩ P.length]:=rfl;rw[ef];generalize decide (P.length=0)=o;cases o<;>simp only[xecs,xec,ev,evs,frz,frz1,leaks,leakss,rdR,rdV,Zc,Zf,Zi,Zj,Zk,Zl,Zo,Zp,Zq,yX,yH,hq']
end
noncomputable def withoutV(Q:List (List Int))(ks:List Int):List (List Int):=((List.range Q.length).filter λ(k:Nat)=>!decide (((k:Nat):Int)∈ks)).map λ(k:Nat)=>Q.getD k []
theorem t9(xs:List D):enumD 0 xs=(List.range xs.length).map λk=>.tup [.int (k:Nat),xs.getD k .non]:=by
 refine List.ext_getElem (by simp[aO]) λi h1 h2=>?_;have h:i<xs.length:=by simpa[aO] using h1
 rw[iO xs 0 i h1 h];simp[h]
theorem xN(x:Int)(xs:List Int):isin (.int x) (.tup (intL xs))=.ok (decide (x∈xs)):=kB x xs
theorem uA(x:Int)(xs:List Int):op2 .notIn (.int x) (.tup (intL xs))=.ok (.bl (!decide (x∈xs))):=by
 show(isin (.int x) (.tup (intL xs))).bind _=_;rw[xN];rfl
theorem n9{k:Nat}(h:k<Q.length):withoutV Q [(k:Int)]=Q.take k++Q.drop (k+1):=by
 have er:List.range Q.length=List.range k++k::(List.range (Q.length-(k+1))).map (k+1+·):=by
  rw[show Q.length=(k+1)+(Q.length-(k+1)) by omega,List.range_add,aAS,List.append_assoc,show k+1+(Q.length-(k+1))-(k+1)=Q.length-(k+1) by omega];rfl
 unfold withoutV;rw[er,List.filter_append,List.filter_cons,zW];have f1:(List.range k).filter (λ(j:Nat)=>!decide (((j:Nat):Int)∈[((k:Nat):Int)]))=List.range k:=List.filter_eq_self.mpr λj hj=>by
  have:=List.mem_range.mp hj;simp;omega
 have f2:((List.range (Q.length-(k+1))).map (k+1+·)).filter (λ(j:Nat)=>!decide (((j:Nat):Int)∈[((k:Nat):Int)]))=(List.range (Q.length-(k+1))).map (k+1+·):=List.filter_eq_self.mpr λj hj=>by
  obtain⟨i,_,rfl⟩:=List.mem_map.mp hj;simp;omega
 rw[f1,f2,yK (by simp)]
 congr 1
 ·refine List.ext_getElem (by simp;omega) λi h1 h2=>?_
  have hi:i<Q.length:=by simp at h2;omega
  simp[hi]
 ·refine List.ext_getElem (by simp) λi h1 h2=>?_
  have hi:k+1+i<Q.length:=by simp at h1;omega
  simp[hi]
section
variable{Φ:Nat->List D->R D}{G:List D}{n:Nat}
noncomputable def Bwithout:List Sm:=[(.ret (.comp .enum [(.var 0)] [1] 2 (some (.leaf (.op2 .notIn (.var 0) (.var 2)))) (.var 1)))]
theorem oA(hQ:Q.length<=1000):xecs Φ G n Bwithout [some (false,.tup (Q.map rowD)),some (false,.tup (intL ks))]=.rt (.lst ((withoutV Q ks).map rowD)):=by
 unfold Bwithout;have hit:itemsD .enum [.tup (Q.map rowD)]=.ok (enumD 0 (Q.map rowD)):=by
  show(if(enumD 0 (Q.map rowD)).length<=LIM then R.ok (enumD 0 (Q.map rowD)) else R.bad)=_;rw[aO,yI,yM (zB hQ (by decide))]
 have e:ev Φ G false (.comp .enum [(.var 0)] [1] 2 (some (.leaf (.op2 .notIn (.var 0) (.var 2)))) (.var 1)) [some (false,.tup (Q.map rowD)),some (false,.tup (intL ks))]=.ok (.lst ((withoutV Q ks).map rowD)):=by
  rw[ev];simp only[evs,ev,yT,rdR,List.getElem?_cons_zero,aS,hit];rw[t9,yI,bS (λx=>match x with|.tup [.int k,_]=>!decide (k∈ks)|_=>false) (λx=>match x with|.tup [_,d]=>d|_=>.non) _ λx hx=>?_]
  ·simp only[Py.R.quiet_ok,aS]
   congr 2
   unfold withoutV;rw[List.filter_map,zY,zY];refine aAE λk hk=>?_;have hk':k<Q.length:=List.mem_range.mp (List.mem_filter.mp hk).1;simp[hk']
  ·obtain⟨k,hk,rfl⟩:=List.mem_map.mp hx
   have ni:=uA (k:Nat) ks;simp only[evT,ev,evO,rdR,rdV,Za,spread,capOf,Zf,Zk,Zl,Zm,Zn,Zo,Zp,yT,yX,yH,Zx,yJ,y7,Nat.reduceAdd,zN,ni];by_cases hc:((k:Nat):Int)∈ks
   ·simp[hc]
   ·simp[hc]
 exact bF (cJ e)
noncomputable def Bat(c:Nat):List Sm:=[(.ite (.or (.leaf (.op2 .lt (.var 1) (.cst (.int 0)))) (.leaf (.op2 .ge (.var 1) (.op1 .len (.op2 .at (.var 0) (.cst (.int 0))))))) [(.rai c)] []),(.ret (.op2 .at (.op2 .at (.var 0) (.cst (.int 0))) (.var 1)))]
theorem at_run:(xecs Φ G n (Bat c) [some (false,shD Q g),some (false,.int x)]).val=if x<0\/(Q.length:Int)<=x then .exc c else .ok (rowD (Q.getD x.toNat [])):=by
 have a0:op2 .at (shD Q g) (.int 0)=.ok (.tup (Q.map rowD)):=rfl;unfold Bat;by_cases h1:x<0
 ·have q:decide (x<0)=true:=zT h1
  rw[yM (.inl h1)];simp only[xecs,xec,evT,ev,frz,leaksT,leaks,rdR,rdV,Za,Zc,Zf,Zk,Zl,Zq,yT,ZC,q];rfl
 ·have q:decide (x<0)=false:=zM h1
  by_cases h2:(Q.length:Int)<=x
  ·have q2:decide ((Q.length:Int)<=x)=true:=zT h2
   rw[yM (.inr h2)];simp only[xecs,xec,evT,ev,frz,leaksT,leaks,rdR,rdV,Za,Zc,Zf,Zk,Zl,Zq,yT,yX,yH,ZC,ZF,ZM,q,a0,yI,q2];rfl
  ·have q2:decide ((Q.length:Int)<=x)=false:=zM h2
   rw[yK (by omega)];have ha:=kF (Q:=Q) (k:=x.toNat) (by omega);rw[show((x.toNat:Nat):Int)=x by omega] at ha;simp only[xecs,xec,evT,ev,frz,leaksT,leaks,rdR,rdV,Za,Zc,Ze,Zf,Zk,Zl,Zq,yT,yX,yH,ZC,ZF,ZJ,ZM,q,a0,yI,q2,ha];rfl
end
noncomputable def x4(r:List Int):X4:=(r.getD 0 0,r.getD 1 0,r.getD 2 0,r.getD 3 0)
noncomputable def pairsV(r:List Int)(w:Int):List (List Int):=if w=0 then[[r.getD 0 0,r.getD 1 0],[r.getD 2 0,r.getD 3 0]] else[[r.getD 0 0,r.getD 3 0],[r.getD 1 0,r.getD 2 0]]
theorem oB(r:List Int)(w:Int):(pairsV r w).length=2/\∀q∈pairsV r w,q.length=2:=by
 unfold pairsV;split<;>simp
noncomputable def jnV(w:Int)(s:Sx):Sx:=joinV s.1.tail s.2 (pairsV (s.1.headD []) w)
noncomputable def spV(w:Int)(s:Sx):Sx:=(numV (jnV w s).1,(jnV w s).2)
noncomputable def T4(s:Sx):Po:=tot (s.1.map x4) s.2.toNat
noncomputable def gdS(M:Int)(s:Sx):Prop:=(∀r∈s.1,r.length=4)/\s.1.length<=9/\0<=s.2/\s.2+2*s.1.length<=M
theorem x4_map(f:Int->Int)(h:r.length=4):x4 (r.map f)=mp4 f (x4 r):=by
 obtain⟨a,b,c,d,rfl⟩:=row4 h;rfl
theorem lN(f:Int->Int){R:List (List Int)}(h:∀r∈R,r.length=4):(R.map λr=>r.map f).map x4=(R.map x4).map (mp4 f):=by
 rw[zY,zY];exact aAE λr hr=>x4_map f (h r hr)
theorem iP{R:List (List Int)}(h:∀r∈R,r.length=4):∀r∈R.map (ren b a),r.length=4:=λr hr=>by
 obtain⟨q,hq,rfl⟩:=List.mem_map.mp hr;rw[dB];exact h q hq
theorem T_num{R:List (List Int)}(h:∀r∈R,r.length=4)(g:Nat):tot ((numV R).map x4) g=tot (R.map x4) g:=by
 have hin:∀x∈(R.map x4).flatMap nm4,x∈dd [] R.flatten:=λx hx=>by
  simp only[List.mem_flatMap,List.mem_map] at hx;obtain⟨_,⟨r,hr,rfl⟩,hx⟩:=hx;obtain⟨a,b,c,d,rfl⟩:=row4 (h r hr);exact(e9 _ _ _).mpr (.inr (List.mem_flatten.mpr ⟨_,hr,hx⟩))
 unfold numV;rw[lN _ h];refine tot_inj _ _ g λx hx y hy e=>?_;have e:(dd [] R.flatten).idxOf x=(dd [] R.flatten).idxOf y:=by omega
 rw[←List.getElem_idxOf (List.idxOf_lt_length_iff.mpr (hin x hx)),←List.getElem_idxOf (List.idxOf_lt_length_iff.mpr (hin y hy))];simp only[e]
theorem T_two(h:∀r∈L,r.length=4)(hg:0<=g)(a b c d:Int):T4 (numV (joinV L g [[a,b],[c,d]]).1,(joinV L g [[a,b],[c,d]]).2)=tot (join2 (a,b) (c,d) (L.map x4)) (g.toNat+won2 (a,b) (c,d)):=by
 have e:joinV L g [[a,b],[c,d]]=((L.map (ren b a)).map (ren (sb a b d) (sb a b c)),if sb a b c=sb a b d then(if a=b then g+1 else g)+1 else(if a=b then g+1 else g)):=rfl;have e2:(if sb a b c=sb a b d then(if a=b then g+1 else g)+1 else(if a=b then g+1 else g)).toNat=g.toNat+won2 (a,b) (c,d):=by
  show _=g.toNat+((if a=b then 1 else 0)+if sb a b c=sb a b d then 1 else 0);split<;>split<;>omega
 rw[e];unfold T4;rw[T_num (iP (iP h))];show tot _ (Int.toNat (if _ then _ else _))=_;rw[e2]
 congr 1
 exact(lN (sb (sb a b c) (sb a b d)) (iP h)).trans (congrArg (List.map _) (lN (sb a b) h))
theorem xO(w:Int)(s:Sx):s.2<=(jnV w s).2/\(jnV w s).2<=s.2+2:=by
 have key:∀(L:List (List Int))(g a b c d:Int),g<=(joinV L g [[a,b],[c,d]]).2/\(joinV L g [[a,b],[c,d]]).2<=g+2:=λL g a b c d=>by
  show g<=(if sb a b c=sb a b d then(if a=b then g+1 else g)+1 else(if a=b then g+1 else g))/\(if sb a b c=sb a b d then(if a=b then g+1 else g)+1 else(if a=b then g+1 else g))<=g+2;split<;>split<;>omega
 unfold jnV pairsV;split<;>exact key _ _ _ _ _ _
theorem splits(M:Int):Splits spV T4 (gdS M):=by
 have L:∀w s,gdS M s->s.1≠[]->(spV w s).1.length+1=s.1.length/\∀r∈(spV w s).1,r.length=4:=λw s h hn=>by
  have j:=n6 (L:=s.1.tail) (g:=s.2) (λr hr=>h.1 r (List.mem_of_mem_tail hr)) (oB (s.1.headD []) w).2;have:=List.length_pos_iff.mpr hn;have e:(jnV w s).1.length=s.1.length-1:=by rw[←List.length_tail];exact j.1
  exact⟨by show(numV (jnV w s).1).length+1=_;rw[nY,e];omega,kE j.2⟩
 refine⟨λs h hn i=>?_,λw s h hn=>(L w s h hn).1,λw s h hn=>?_⟩
 ·obtain⟨R,g⟩:=s
  cases R with
  |nil=>exact absurd rfl hn
  |cons r R=>
   have t:=λa b c d=>T_two (L:=R) (g:=g) (λr hr=>h.1 r (yR _ hr)) h.2.2.1 a b c d;show tot (x4 r::R.map x4) g.toNat i=_;rw[tK];rw[←t,←t];rfl
 ·have:=L w s h hn
  have j:=xO w s;obtain⟨_,h2,h3,h4⟩:=h;exact⟨this.2,by omega,show 0<=(jnV w s).2 by omega,show(jnV w s).2+_<=M by omega⟩
theorem fO:∀(n:Nat)(t:List (Sk×Int)),(spls sp n t).length<=2^n*t.length
 |0,t=>by simp[spls]
 |n+1,t=>by
  have h2:=cY (sp:=sp) t [];have h4:(spl sp t).length<=2*t.length:=by simpa[spl] using h2
  have h5:=Nat.mul_le_mul_left (2^n) h4;rw[Nat.pow_succ,Nat.mul_assoc];exact zB (fO n _) h5
noncomputable def ptS(s:Sx):List (Sk×Int):=spls spV s.1.length [((s,0),1)]
noncomputable def mxN(ks:List Int):Nat:=match ks with
 |[]=>0
 |x::r=>(maxI x r+1).toNat
noncomputable def ptV(s:Sx):List (Int×Int):=sumR (λk=>atB (byR (ptS s)) k) (mxN ((byR (ptS s)).map (·.1))) []
theorem rW{f M:Nat}(h:gdS M s)(hM:M<=62)(hs:∀s,gdS M s->s.1≠[]->∀w,w=0\/w=1->Φ f [toSheet s,.int 0,.int w]=.ok (toSheet (spV w s))):
  powD Φ f (toSheet s)=some (tabD (ptV s))/\keysNd (ptV s)/\val (ptV s)=T4 s/\inK 2 (s.1.length+2*mxN ((byR (ptS s)).map (·.1))) (s.1.length+1+2*(M+1)) (ptV s):=by
 have sh:∀s,asSheet (toSheet s)=some s:=λs=>by
  show(rowsI (s.1.map rowD)).map _=_;rw[fA];rfl
 have g0:allG (gdS M) s.1.length [((s,0),1)]:=λk hk=>by
  simp only[yQ,aAO,List.mem_singleton] at hk;subst hk;exact⟨h,rfl⟩
 have h9:2^s.1.length<=2^9:=Nat.pow_le_pow_right (by decide) h.2.1;have e1:=j3 (so:=λs w=>(okO (Φ f [toSheet s,.int 0,.int w])).bind asSheet) (splits M) (λs h hn=>by
  simp only[hs s h hn 0 (.inl rfl),hs s h hn 1 (.inr rfl),okO,aAG,sh,and_self]) s.1.length _ g0 (by simp only[yJ,y7];omega)
 have w:=λi=>mZ (splits M) i _ _ g0;have pw:=nA (sp:=spV) s.1.length 0 [((s,0),1)] λk hk=>by
  simp only[yQ,aAO,List.mem_singleton] at hk;subst hk;exact⟨0,by omega,rfl⟩
 have ne:=rC (sp:=spV) s.1.length [((s,0),1)] (by simp);have ln:=fO (sp:=spV) s.1.length [((s,0),1)];rw[zN] at pw;unfold powD;rw[sh,aAG,e1,aAG];unfold ptV ptS;generalize spls spV s.1.length [((s,0),1)]=t at*;have kk:∀a,a∈(byR t).map (·.1)↔∃k∈t.map (·.1),k.1.2=a:=λa=>by
  refine(m6 t [] a).trans ?_;simp
 have bl:(byR t).length<=t.length:=by simpa[byR] using lA t []
 have bl:((byR t).map (·.1)).length<=t.length:=by simpa using bl
 cases e:(byR t).map (·.1) with
 |nil=>
  obtain⟨k,t',rfl⟩:=List.exists_cons_of_ne_nil ne;have:=(kk k.1.1.2).mpr ⟨k.1,by simp,rfl⟩;rw[e] at this;cases this
 |cons x r=>
  rw[e] at kk bl;have mg:=gF r x;have mm:=hV r x;have m0:∀a∈x::r,0<=a/\a<=M:=λa ha=>by
   obtain⟨k,hk,rfl⟩:=(kk a).mp ha;obtain⟨⟨_,_,g1,g2⟩,_⟩:=(w 0).2 k hk;omega
  have b:=m0 _ mm;simp only[yJ,y7] at bl ln;have so:=j0 (b:=atB (byR t)) (maxI x r+1).toNat [] s.1.length (s.1.length+1) z0 (eS _ _ _) (λk hk=>wI t [] s.1.length k pw λg=>eS _ _ _) (by have:=h.2.1;omega);have nd:keysNd (sumR (λk=>atB (byR t) k) (maxI x r+1).toNat []):=rA _ _ _ z0;show(if r.length<=900/\-1<=maxI x r/\maxI x r<=5000 then(sumO (atB (byR t)) (maxI x r+1).toNat []).map tabD else none)=some (tabD (sumR _ (maxI x r+1).toNat []))/\keysNd (sumR _ (maxI x r+1).toNat [])/\val (sumR _ (maxI x r+1).toNat [])=_/\inK 2 (_+2*((maxI x r+1).toNat:Nat)) _ (sumR _ (maxI x r+1).toNat []);rw[yM ⟨by omega,by omega,by omega⟩,so.1];refine⟨rfl,nd,?_,λk hk=>?_⟩
  ·funext i
   rw[mX];have z:val ([]:List (Int×Int))=λ_=>0:=rfl;rw[z,b8];have hv:(λk:Nat=>val (atB (byR t) k))=λg j=>wgt (λy:Sk=>if y.1.2=((g:Nat):Int)/\y.2=j then 1 else 0) t:=by
    funext g j;exact byR_val t g j
   rw[hv,wH (T:=T4) (gd:=gdS M) (λs h e=>by unfold T4;rw[e];exact tot_nil _) (λs h=>h.2.2.1) i _ t (w i).2 (λk hk=>by
    have:=mg k.1.2 ((kk _).mpr ⟨k,hk,rfl⟩);have:=b;omega),(w i).1,wgt_cons,bP]
   show 0+(1*T4 s (i-0)+0)=_;simp
  ·obtain⟨e,q1,q2⟩:=so.2 k hk
   exact⟨e,by omega,q2⟩
theorem oD(s:Int):∀(row:List Int)(q:Int)(t:List (Int×Int))(i:Int),val (putC s row q t) i=val t i+s*cc row q i
 |[],q,t,i=>by simp[putC,cc]
 |x::xs,q,t,i=>by
  rw[putC,oD s xs,b7,cc,Int.mul_add];by_cases h:i=q
  ·rw[yM h.symm,yM h,Int.mul_comm x];omega
  ·rw[yK λe=>h e.symm,yK h];simp
theorem rX(s:Int):∀(row:List Int)(q:Int)(t:List (Int×Int)),keysNd t->keysNd (putC s row q t)
 |[],q,t,h=>h
 |x::xs,q,t,h=>rX s xs _ _ (aQ h _ _)
theorem gI(hd:d=2/\q=2\/d=4/\q=1)(s:Int):∀(row:List Int)(e:Nat)(t:List (Int×Int)),inK d a c t->e+q*row.length<c+q->inK d a c (putC s row (a-d*e) t)
 |[],e,t,h,_=>h
 |x::xs,e,t,h,hl=>by
  simp only[yJ,Nat.mul_add] at hl;have:=gI hd s xs (e+q) _ (dZ (n:=x*s) h ⟨e,by omega,rfl⟩) (by omega);rw[putC,show a-d*(e:Int)-4=a-d*((e+q:Nat):Int) by rcases hd with⟨rfl,rfl⟩|⟨rfl,rfl⟩<;>omega];exact this
theorem pX:∀(n:Nat)(l:List (Int×Int)),rgs n l<=n
 |0,_=>by simp[rgs]
 |_+1,[]=>by simp[rgs]
 |n+1,(a,b)::r=>by
  have:=pX n (r.map (sb2 a b));rw[rgs];split<;>omega
theorem bU:∀(X:List X4)(w:List Int),(pairsW X w).length<=2*X.length
 |[],_=>by simp[pairsW]
 |_::_,[]=>by simp[pairsW]
 |r::X,w::ws=>by
  have:=bU X ws;have:(prs r w).length=2:=by unfold prs;split<;>rfl
  simp only[pairsW,yY,yJ];omega
theorem iQ:∀(n:Nat)(w:List Int),w∈waysL n->∃e:Nat,e<=n/\w.sum=e
 |0,w,h=>⟨0,yP _,by simp[waysL] at h;simp[h]⟩
 |n+1,w,h=>by
  simp only[waysL,List.mem_append,List.mem_map] at h;rcases h with⟨v,hv,rfl⟩|⟨v,hv,rfl⟩<;>obtain⟨e,h1,h2⟩:=iQ n v hv
  ·exact⟨e,by omega,by simp[h2]⟩
  ·exact⟨e+1,by omega,by simp[h2]⟩
noncomputable def ltN(X:List X4)(g:Nat)(w:List Int):Nat:=g+rings (pairsW X w)
noncomputable def lt1(X:List X4)(g:Nat)(t:List (Int×Int))(w:List Int):List (Int×Int):=putC (sg (ltN X g w)) (chs (ltN X g w)) (X.length-2*w.sum+2*ltN X g w) t
noncomputable def ltV(X:List X4)(g:Nat):List (Int×Int):=(waysL X.length).foldl (lt1 X g) []
noncomputable def okT(X:List X4)(g:Nat)(t:List (Int×Int)):Prop:=keysNd t/\inK 2 (X.length+2*(g+2*X.length:Nat)) (X.length+2*(g+2*X.length)+1) t
theorem xP(h:okT X g t)(hw:w∈waysL X.length):okT X g (lt1 X g t w):=by
 obtain⟨e,h1,h2⟩:=iQ _ _ hw;have h3:=pX (pairsW X w).length (pairsW X w);have h4:=bU X w;have h5:ltN X g w<=g+2*X.length:=Nat.add_le_add_left (zB h3 h4) g;refine⟨rX _ _ _ _ h.1,?_⟩;have:=gI (.inl ⟨rfl,rfl⟩) (sg (ltN X g w)) (chs (ltN X g w)) (e+(g+2*X.length-ltN X g w)) t h.2 (by rw[bE];omega);unfold lt1;rw[h2,show(X.length:Int)-2*(e:Int)+2*(ltN X g w:Nat)=X.length+2*(g+2*X.length:Nat)-2*((e+(g+2*X.length-ltN X g w):Nat):Int) by omega];exact this
theorem xQ:∀(l:List (List Int))(t:List (Int×Int)),(∀w∈l,w∈waysL X.length)->okT X g t->okT X g (l.foldl (lt1 X g) t)/\∀i,val (l.foldl (lt1 X g) t) i=val t i+sumF (λw=>trs (g+rings (pairsW X w)) (mono (X.length-2*w.sum)) i) l
 |[],t,_,h=>⟨h,λi=>by simp[sumF]⟩
 |w::l,t,hl,h=>by
  have q:=xQ l _ (λv hv=>hl v (yR _ hv)) (xP h (hl w yZ));refine⟨q.1,λi=>?_⟩;rw[List.foldl_cons,q.2,lt1,oD,tJ,pC];simp only[ltN];omega
theorem xR(X:List X4)(g:Nat):okT X g (ltV X g)/\val (ltV X g)=tot X g:=by
 have:=xQ (X:=X) (g:=g) (waysL X.length) [] (λ_ h=>h) ⟨z0,eS _ _ _⟩;refine⟨this.1,funext λi=>(this.2 i).trans ?_⟩;show 0+_=_;rw[Int.zero_add];rfl
noncomputable def gdK(t:List (Int×Int)):Bool:=decide (t.length<64)||longK (t.map (·.1))
noncomputable def rowK(k:Nat)(c:Int):List Int:=(List.range k).map λ(e:Nat)=>c-4*e
theorem iR(k:Nat)(c:Int):(rowK k c).length=k:=by simp[rowK]
theorem fB(k:Nat)(c:Int):rowK (k+1) c=rowK k c++[c-4*k]:=by simp[rowK,aAS]
theorem cK(k:Nat)(c:Int):famK k c=rowK k c++rowK k (c-2):=rfl
theorem lO(h:t.map (·.1)=rowK k c)(hk:k<64):gdK t=true:=by
 have:t.length=k:=by rw[←yI (f:=(·.1)),h,iR]
 simp[gdK,this,hk]
theorem xS(h:t.map (·.1)=famK (k+1) c)(hk:k<64):gdK t=true:=by
 have l:(famK (k+1) c).length=2*(k+1):=by rw[cK,yY,iR,iR];omega
 have l':t.length=2*(k+1):=by rw[←yI (f:=(·.1)),h,l]
 by_cases h64:t.length<64
 ·simp[gdK,h64]
 ·have hd:(famK (k+1) c).headD 0=c:=by
   show((rowK (k+1) c++_).headD 0)=c;simp[rowK,List.range_succ_eq_map]
  unfold gdK longK;rw[h,l,hd,show 2*(k+1)/2=k+1 by omega];simp only[Bool.or_eq_true,yU,zQ];exact .inr ⟨⟨by omega,by omega⟩,trivial⟩
noncomputable def aK(f:List Int)(k:Int):List Int:=if k∈f then f else f++[k]
noncomputable def tmK(f ks:List Int):List Int:=ks.foldl (λf p=>aK (aK f (p+2)) (p+ -2)) f
theorem iS:∀(t f:List (Int×Int)),(t.foldl (λf x=>addA (addA f (x.1+2) (-x.2)) (x.1+ -2) (-x.2)) f).map (·.1)=tmK (f.map (·.1)) (t.map (·.1))
 |[],f=>rfl
 |x::t,f=>by
  rw[List.foldl_cons,iS t,aZ,aZ];rfl
theorem mem_row:x∈rowK k c↔∃e:Nat,e<k/\c-4*e=x:=by simp[rowK]
theorem lQ(hB:∀x∈B,x%4≠(c+2)%4):∀k,tmK B (rowK (k+1) c)=B++rowK (k+2) (c+2)
 |0=>by
  have h1:c+2∉B:=λh=>hB _ h rfl;have h2:c+ -2∉B++[c+2]:=λh=>by
   rcases List.mem_append.mp h with h|h
   ·exact hB _ h (by omega)
   ·simp at h
  show aK (aK B (c-4*(0:Nat)+2)) (c-4*(0:Nat)+ -2)=B++[c+2-4*(0:Nat),c+2-4*(1:Nat)];simp only[Int.natCast_zero,Int.mul_zero,Int.sub_zero,aK];rw[yK h1,yK h2,List.append_assoc,show c+2-4*((1:Nat):Int)=c+ -2 by omega];rfl
 |k+1=>by
  have e:tmK B (rowK (k+2) c)=aK (aK (tmK B (rowK (k+1) c)) (c-4*(k+1:Nat)+2)) (c-4*(k+1:Nat)+ -2):=by
   rw[fB (k+1),tmK,List.foldl_append];rfl
  rw[e,lQ hB k];have h1:c-4*(k+1:Nat)+2∈B++rowK (k+2) (c+2):=zK _ (mem_row.mpr ⟨k+1,by omega,by omega⟩);have h2:c-4*(k+1:Nat)+ -2∉B++rowK (k+2) (c+2):=λh=>by
   rcases List.mem_append.mp h with h|h
   ·exact hB _ h (by omega)
   ·obtain⟨e,h1,h2⟩:=mem_row.mp h;omega
  rw[aK,aK,yM h1,yK h2,fB (k+2),List.append_assoc,show c+2-4*((k+2:Nat):Int)=c-4*(k+1:Nat)+ -2 by omega]
theorem iT(h:t.map (·.1)=rowK (k+1) c):(tmR t).map (·.1)=rowK (k+2) (c+2):=by
 refine(iS t []).trans ?_;rw[h];exact lQ (B:=[]) (λx hx=>by cases hx) k
theorem xT(h:t.map (·.1)=famK (k+1) c):(tmR t).map (·.1)=famK (k+2) (c+2):=by
 refine(iS t []).trans ?_;rw[h,cK,tmK,List.foldl_append];show tmK (tmK [] (rowK (k+1) c)) (rowK (k+1) (c-2))=_;rw[lQ (B:=[]) (λx hx=>by cases hx) k];show tmK (rowK (k+2) (c+2)) _=_;rw[lQ (λx hx=>by obtain⟨e,h1,h2⟩:=mem_row.mp hx;omega) k,cK,show c-2+2=c+2-2 by omega]
theorem cC{F:Nat->Int->List Int}(hF:∀(t:List (Int×Int)) k c,t.map (·.1)=F (k+1) c->(tmR t).map (·.1)=F (k+2) (c+2)):∀(n:Nat)(t:List (Int×Int))(k:Nat)(c:Int),t.map (·.1)=F (k+1) c->(∀j,j<n->b j=[])->(sumR b n t).map (·.1)=F (k+n+1) (c+2*n)
 |0,t,k,c,h,_=>by simpa[sumR] using h
 |n+1,t,k,c,h,hb=>by
  rw[sumR,hb n (by omega),show k+(n+1)+1=k+1+n+1 by omega,show c+2*((n+1:Nat):Int)=c+2+2*n by omega];exact cC hF n _ (k+1) (c+2) (hF t k c h) λj hj=>hb j (by omega)
theorem cL(s:Int)(hB:∀x∈B,x%4≠q%4):∀(row:List Int)(k:Nat)(t:List (Int×Int)),t.map (·.1)=B++rowK k q->(putC s row (q-4*k) t).map (·.1)=B++rowK (k+row.length) q
 |[],k,t,h=>h
 |x::xs,k,t,h=>by
  have hn:q-4*k∉B++rowK k q:=λh=>by
   rcases List.mem_append.mp h with h|h
   ·exact hB _ h (by omega)
   ·obtain⟨e,h1,h2⟩:=mem_row.mp h;omega
  have:=cL s hB xs (k+1) (addA t (q-4*k) (x*s)) (by rw[aZ,h,yK hn,fB,List.append_assoc]);rw[putC,show q-4*(k:Int)-4=q-4*((k+1:Nat):Int) by omega,this,yJ,show k+1+xs.length=k+(xs.length+1) by omega]
noncomputable def six:List (List (List Int)):=[[[0,0,1,1]],[[0,1,0,1]],[[0,1,1,0]],[[1,0,0,1]],[[1,0,1,0]],[[1,1,0,0]]]
theorem one_six(s:Sheet Q 1):Q∈six:=by
 obtain⟨r,rfl⟩:=List.length_eq_one_iff.mp s.len;obtain⟨a,b,c,d,rfl⟩:=row4 (s.four r (by simp));have r:=λx hx=>s.two.rng x hx;have c0:=s.two.cnt 0 (by decide);have key:∀a∈[0,1],∀b∈[0,1],∀c∈[0,1],∀d∈[0,1],[a,b,c,d].count (0:Int)=2->[[a,b,c,d]]∈six:=by decide
 have i:∀x∈[a,b,c,d],x∈[(0:Int),1]:=λx hx=>by
  have:=r x (by simpa using hx);simp;omega
 exact key a (i a (by simp)) b (i b (by simp)) c (i c (by simp)) d (i d (by simp)) (by simpa using c0)
theorem uB(s:Sheet Q 1):∃n0 n1:Nat,(n0=2/\n1=1\/n0=1/\n1=2\/n0=1/\n1=1)/\(∀g:Nat,spV 0 (Q,(g:Int))=([],((g+n0:Nat):Int))/\spV 1 (Q,(g:Int))=([],((g+n1:Nat):Int)))/\rings (pairsW (Q.map x4) [0])=n0/\rings (pairsW (Q.map x4) [1])=n1:=by
 have h:=one_six s;simp only[six,zA,List.not_mem_nil,or_false] at h;rcases h with rfl|rfl|rfl|rfl|rfl|rfl
 ·exact⟨2,1,.inl ⟨rfl,rfl⟩,λg=>⟨rfl,rfl⟩,rfl,rfl⟩
 ·exact⟨1,1,.inr (.inr ⟨rfl,rfl⟩),λg=>⟨rfl,rfl⟩,rfl,rfl⟩
 ·exact⟨1,2,.inr (.inl ⟨rfl,rfl⟩),λg=>⟨rfl,rfl⟩,rfl,rfl⟩
 ·exact⟨1,2,.inr (.inl ⟨rfl,rfl⟩),λg=>⟨rfl,rfl⟩,rfl,rfl⟩
 ·exact⟨1,1,.inr (.inr ⟨rfl,rfl⟩),λg=>⟨rfl,rfl⟩,rfl,rfl⟩
 ·exact⟨2,1,.inl ⟨rfl,rfl⟩,λg=>⟨rfl,rfl⟩,rfl,rfl⟩
theorem ways1:waysL 1=[[0],[1]]:=rfl
theorem good{m g:Nat}(s:Sheet Q m)(h:m<=9/\g<=6\/m<=1/\g<=60)(hp:inK 2 (m+2*mxN ((byR (ptS (Q,(g:Int)))).map (·.1))) (m+1+2*(g+2*m+1)) (ptV (Q,(g:Int))))(nd:keysNd (ptV (Q,(g:Int)))):gdK (ptV (Q,(g:Int)))=true/\gdK (ltV (Q.map x4) g)=true:=by
 have lt:=(xR (Q.map x4) g).1;by_cases hs:m<=9/\g<=6
 ·have l1:=eT (.inl rfl) nd hp
  have l2:=eT (.inl rfl) lt.1 lt.2;rw[yI,s.len] at l2;simp only[gdK,Bool.or_eq_true,zQ];exact⟨.inl (by omega),.inl (by omega)⟩
 ·obtain⟨hm,hg⟩:=h.resolve_left hs
  have hm:m=0\/m=1:=by omega
  rcases hm with rfl|rfl
  ·have e:=List.length_eq_zero_iff.mp s.len
   subst e;constructor
   ·have e:ptV ([],(g:Int))=sumR (λk=>atB [((g:Int),[(0,1)])] k) (g+1) []:=by
     show sumR _ ((g:Int)+1).toNat []=_;rw[show((g:Int)+1).toNat=g+1 by omega];rfl
    have b:∀j,j<g->atB [((g:Int),[(0,1)])] (j:Nat)=[]:=λj hj=>by
     rw[atB,yK (by omega)];rfl
    have b':atB [((g:Int),[((0:Int),(1:Int))])] (g:Nat)=[(0,1)]:=by rw[atB,yM rfl]
    rw[e,sumR,b'];exact lO (cC (λt k c=>iT) g _ 0 0 (by rfl) b) (by omega)
   ·have:=cL (sg g) (B:=[]) (q:=2*g) (λx hx=>by cases hx) (chs g) 0 [] rfl
    rw[bE] at this;refine lO (k:=0+(g+1)) (c:=2*g) (Eq.trans ?_ this) (by omega);show(putC (sg (g+0)) (chs (g+0)) (0-0+2*(g+0:Nat)) []).map _=_;simp
  ·obtain⟨n0,n1,hn,hsp,r0,r1⟩:=uB s
   obtain⟨s0,s1⟩:=hsp g;have ex:(Q.map x4).length=1:=by rw[yI,s.len]
   have el:ltV (Q.map x4) g=lt1 (Q.map x4) g (lt1 (Q.map x4) g [] [0]) [1]:=by
    unfold ltV;rw[ex,ways1];rfl
   have e0:∀t,lt1 (Q.map x4) g t [0]=putC (sg (g+n0)) (chs (g+n0)) (1+2*(g+n0:Nat)) t:=λt=>by
    unfold lt1 ltN;rw[r0,ex];rfl
   have e1:∀t,lt1 (Q.map x4) g t [1]=putC (sg (g+n1)) (chs (g+n1)) (-1+2*(g+n1:Nat)) t:=λt=>by
    unfold lt1 ltN;rw[r1,ex];rfl
   have es:ptS (Q,(g:Int))=[((([],((g+n0:Nat):Int)),1),1),((([],((g+n1:Nat):Int)),-1),1)]:=by
    show spls spV Q.length _=_;rw[s.len];show addA (addA [] (spV 0 (Q,(g:Int)),(0:Int)+1) 1) (spV 1 (Q,(g:Int)),(0:Int)+ -1) 1=_;rw[s0,s1,addA,addA,yK (λe=>by have:=congrArg Prod.snd e;exact absurd (show(1:Int)= -1 from this) (by decide))];rfl
   have ltnd:keysNd (ltV (Q.map x4) g):=lt.1;unfold ptV;rw[el,e0,e1] at ltnd⊢;rw[es];have short:∀(a:Int)(f0 f1:Nat),1+2*((g+n0:Nat):Int)=a-4*(f0:Nat)->-1+2*((g+n1:Nat):Int)=a-4*(f1:Nat)->f0+(g+n0)<g+3->f1+(g+n1)<g+3->gdK (putC (sg (g+n1)) (chs (g+n1)) (-1+2*(g+n1:Nat)) (putC (sg (g+n0)) (chs (g+n0)) (1+2*(g+n0:Nat)) []))=true:=λa f0 f1 h0 h1 h2 h3=>by
    rw[h0,h1] at ltnd⊢;have:=eT (.inr rfl) ltnd (gI (.inr ⟨rfl,rfl⟩) _ _ f1 _ (gI (.inr ⟨rfl,rfl⟩) _ _ f0 [] (eS 4 a (g+3)) (by rw[bE];omega)) (by rw[bE];omega));simp only[gdK,Bool.or_eq_true,zQ];exact .inl (by omega)
   have ne:∀a b:Nat,a≠b->∀(t t':List (Int×Int)),∀j,j<a->j<b->atB [((a:Int),t),((b:Int),t')] (j:Nat)=[]:=λa b _ t t' j h1 h2=>by
    rw[atB,yK (by omega),atB,yK (by omega)];rfl
   have eb:∀a b:Nat,a≠b->byR [((([],(a:Int)),1),1),((([],(b:Int)),-1),1)]=[((a:Int),[(1,1)]),((b:Int),[(-1,1)])]:=λa b h=>by
    show addB [((a:Int),[(1,1)])] (b:Int) (-1) 1=_;rw[addB,yK (by omega)];rfl
   have at0:∀(a b:Nat)(t t':List (Int×Int)),atB [((a:Int),t),((b:Int),t')] (a:Nat)=t:=λa b t t'=>by rw[atB,yM rfl]
   have at1:∀(a b:Nat)(t t':List (Int×Int)),a≠b->atB [((a:Int),t),((b:Int),t')] (b:Nat)=t':=λa b t t' h=>by rw[atB,yK (by omega),atB,yM rfl]
   have em:∀a b c:Nat,(a=c/\b<=c\/b=c/\a<=c)->mxN [(a:Int),(b:Int)]=c+1:=λa b c h=>by
    unfold mxN maxI;simp only[List.foldl];split<;>omega
   rcases hn with⟨rfl,rfl⟩|⟨rfl,rfl⟩|⟨rfl,rfl⟩
   ·refine⟨?_,short (2*g+5) 0 1 (by omega) (by omega) (by omega) (by omega)⟩
    rw[eb _ _ (by omega)];show gdK (sumR _ (mxN [((g+2:Nat):Int),((g+1:Nat):Int)]) [])=true;rw[em _ _ (g+2) (by omega),sumR,at0,sumR,at1 _ _ _ _ (by omega)];exact lO (cC (λt k c=>iT) (g+1) _ 1 3 (by rfl) λj hj=>ne _ _ (by omega) _ _ j (by omega) (by omega)) (by omega)
   ·refine⟨?_,short (2*g+3) 0 0 (by omega) (by omega) (by omega) (by omega)⟩
    rw[eb _ _ (by omega)];show gdK (sumR _ (mxN [((g+1:Nat):Int),((g+2:Nat):Int)]) [])=true;rw[em _ _ (g+2) (by omega),sumR,at1 _ _ _ _ (by omega),sumR,at0];exact lO (cC (λt k c=>iT) (g+1) _ 1 1 (by rfl) λj hj=>ne _ _ (by omega) _ _ j (by omega) (by omega)) (by omega)
   ·constructor
    ·have e:byR [((([],((g+1:Nat):Int)),1),1),((([],((g+1:Nat):Int)),-1),1)]=[(((g+1:Nat):Int),[(1,1),(-1,1)])]:=by
      show addB [(((g+1:Nat):Int),[(1,1)])] ((g+1:Nat):Int) (-1) 1=_;rw[addB,yM rfl];rfl
     rw[e];show gdK (sumR _ (((g+1:Nat):Int)+1).toNat [])=true;rw[show(((g+1:Nat):Int)+1).toNat=g+1+1 by omega,sumR,atB,yM rfl];exact xS (cC (λt k c=>xT) (g+1) _ 0 1 (by rfl) λj hj=>by rw[atB,yK (by omega)];rfl) (by omega)
    ·have k0:=cL (sg (g+1)) (B:=[]) (q:=1+2*(g+1:Nat)) (λx hx=>by cases hx) (chs (g+1)) 0 [] rfl
     rw[bE] at k0;have k1:=cL (sg (g+1)) (B:=rowK (g+2) (1+2*(g+1:Nat))) (q:= -1+2*(g+1:Nat)) (λx hx=>by obtain⟨e,h1,h2⟩:=mem_row.mp hx;omega) (chs (g+1)) 0 _ (k0.trans (by simp[rowK]));rw[bE] at k1;refine xS (k:=g+1) (c:=1+2*(g+1:Nat)) (Eq.trans ?_ (k1.trans ?_)) (by omega)
     ·simp
     ·rw[cK]
      simp only[zN]
      congr 1
      congr 1
      omega
section
variable{Φ:Nat->List D->R D}{G:List D}{n:Nat}{s:Sm}{ss:List Sm}{δ δ':Sto}{v:R D}
theorem cD(h:xec Φ G n s δ=.nx δ')(k:(xecs Φ G n ss δ').val=v):(xecs Φ G n (s::ss) δ).val=v:=by rw[aD h];exact k
theorem aN(h:xec Φ G n s δ=.nx δ')(k:xecs Φ G n ss δ'=o):xecs Φ G n (s::ss) δ=o:=by rw[aD h];exact k
theorem lf1(h:xecs Φ G n body (δ.set i (some (false,d)))=o):loopF Φ G n [i] body d δ=o:=h
theorem aP(ha:ev Φ G true a δ=.ok x)(hb:ev Φ G true b δ=.ok y)(h:op2 o x y=v):ev Φ G m (.op2 o a b) δ=v:=by rw[ev,ha,aS,hb,aS,h]
theorem lR(a b:List D)(h:a.length+b.length<=5000):op2 .add (.lst a) (.lst b)=.ok (.lst (a++b)):=xA a b (zB h (by decide))
theorem pY(h:(evs Φ G false its (frz (leakss false its) δ)).bind (itemsD .rng)=.ok (rangeD 0 m))(Q:Nat->Sto->Prop)(q0:Q 0 (frz (leakss false its) δ))
  (st:∀i,i<m->∀δ,Q i δ->∃δ',loopF Φ G n tg body (.int (i:Nat)) δ=.nx δ'/\Q (i+1) δ') (k:∀δ',Q m δ'->(xecs Φ G n ss δ').val=v):(xecs Φ G n (.loop .rng its tg body::ss) δ).val=v:=by
 obtain⟨δ',e,q⟩:=bL h Q q0 st;exact cD e (k δ' q)
noncomputable def cstep(Φ:Nat->List D->R D)(G:List D)(ntg:Nat)(cond:Option Tx)(elt:Ex)(cp:Sto)(x:D):R (Option D):=match spread ntg x with
 |none=>.bad
 |some ts=>(evO Φ G cond (ts.map (λt=>some (false,t))++cp)).bind λb=>if b then(ev Φ G false elt (ts.map (λt=>some (false,t))++cp)).bind λy=>.ok (some y) else .ok none
theorem oE{α:Type}{cond:Option Tx}{a:α->D}{xs:List α}(p:α->Bool)(f:α->D)(h:(evs Φ G true its δ).bind (itemsD k)=.ok (xs.map a))(hf:∀x∈xs,cstep Φ G ntg cond elt (capOf δ caps) (a x)=.ok (if p x then some (f x) else none)):
  ev Φ G m (.comp k its caps ntg cond elt) δ=.ok (.lst ((xs.filter p).map f)):=by
 rw[ev]
 cases e:evs Φ G true its δ with
 |ok ss=>
  rw[e] at h;have h:itemsD k ss=.ok (xs.map a):=h;rw[aS,h,aS];have key:∀ys:List α,(∀x∈ys,x∈xs)->compM (cstep Φ G ntg cond elt (capOf δ caps)) (ys.map a)=.ok ((ys.filter p).map f):=by
   intro ys
   induction ys with
   |nil=>intro _;rfl
   |cons y ys ih=>
    intro hs;rw[yQ,compM,ih λx hx=>hs x (yR _ hx),hf y (hs y yZ)];cases e:p y<;>simp[e]
  exact congrArg (λz:R (List D)=>(R.quiet z).bind λys=>R.ok (D.lst ys)) (key xs λ_ h=>h)
 |exc c=>rw[e] at h;cases h
 |bad=>rw[e] at h;cases h
noncomputable def prT(p:Int×Int):D:=.tup [.int p.1,.int p.2]
theorem iU:∀l:List (Int×Int),pairsI (l.map λp=>[p.1,p.2])=some l
 |[]=>rfl
 |p::l=>by
  show(pairsI (l.map λp=>[p.1,p.2])).map _=_;rw[iU l];rfl
theorem fold_tk{α β:Type}{f:β->α->β}{b:β}{l:List α}(h:i<l.length):(l.take (i+1)).foldl f b=f ((l.take i).foldl f b) l[i]:=by
 rw[zJ h,List.foldl_append];rfl
theorem fP:∀(Q:List (List Int))(w:List Int)(j:Nat),j<Q.length->j<w.length->pairsW ((Q.take (j+1)).map x4) (w.take (j+1))=pairsW ((Q.take j).map x4) (w.take j)++prs (x4 (Q.getD j [])) (w.getD j 0)
 |r::Q,v::w,0,_,_=>by simp[pairsW]
 |r::Q,v::w,j+1,h1,h2=>by
  have:=fP Q w j (by simpa using h1) (by simpa using h2);show prs (x4 r) v++pairsW ((Q.take (j+1)).map x4) (w.take (j+1))=_;rw[this,←List.append_assoc];rfl
 |[],_,_,h,_=>by cases h
 |_,[],_,_,h=>by cases h
theorem iV:∀(n:Nat)(w:List Int),w∈waysL n->(intL w).all smallI=true
 |0,w,h=>by simp[waysL] at h;simp[h,intL]
 |n+1,w,h=>by
  simp only[waysL,List.mem_append,List.mem_map] at h;rcases h with⟨v,hv,rfl⟩|⟨v,hv,rfl⟩<;>(have:=iV n v hv;simp only[intL,zW,List.all_append,yU] at this⊢;exact⟨this,by decide⟩)
theorem aV(h:evT Φ G c (frz (leaksT c) δ)=.ok t)(k:xecs Φ G n (if t then a else b) (frz (leaksT c) δ)=o):xec Φ G n (.ite c a b) δ=o:=by
 rw[xec,h,of_ok,←k];cases t<;>rfl
theorem uC(t:List (Int×Int)):tabOf (t.map (·.1)) (t.map λx=>.int x.2)=some t:=by
 have h:∀t:List (Int×Int),intsOf (t.map λx=>.int x.2)=some (t.map (·.2)):=by
  intro t
  induction t with
  |nil=>rfl
  |cons x t ih=>show(intsOf (t.map λx=>.int x.2)).map _=_;rw[ih];rfl
 unfold tabOf;rw[h,aAG,yM (by simp)]
 congr 1
 induction t with
 |nil=>rfl
 |cons x t ih=>simp[ih]
theorem xU(hf:frz (leaks false p++leaks false r) δ=δ')(hi:δ'[i]?=some (some (true,tabD t)))(hp:ev Φ G false p δ'=.ok (.int pv))(hr:ev Φ G false r δ'=.ok (.int rv))(hl:laddT Φ f t pv rv=some t'):xec Φ G n (.ladd i f p r) δ=.nx (δ'.set i (some (true,tabD t'))):=by
 rw[xec,hf,hp,hr];unfold laddD;rw[hi];show(match(tabOf (t.map (·.1)) (t.map λx=>.int x.2)).bind λt=>laddT Φ f t pv rv with
  |some t=>Out.nx (δ'.set i (some (true,tabD t)))
  |none=>.bad)=_
 rw[uC,aAG,hl]
theorem fQ:∀l:List Int,intsOf (intL l)=some l
 |[]=>rfl
 |x::l=>by show(intsOf (intL l)).map _=_;rw[fQ l];rfl
theorem ladd_ok(ch:Φ f [.int (ltN X g w:Nat)]=.ok (.lst (intL (chs (ltN X g w)))))(ok:okT X g t)(ok1:okT X g (lt1 X g t w))(hp:p=X.length-2*w.sum)(hb:X.length+g+2*X.length<=1000)(hn:ltN X g w<=900):laddT Φ f t p (ltN X g w:Nat)=some (lt1 X g t w):=by
 have l:=eT (.inl rfl) ok1.1 ok1.2;unfold laddT;rw[ch];show(intsOf (intL (chs (ltN X g w)))).bind _=_;rw[fQ,aAG,hp];exact yM ⟨ok.1,by rw[bE];omega,zB l (by omega)⟩
theorem oF:∀{t:List (Int×Int)}{i:Int},keysNd t->i∈t.map (·.1)->lookD (t.map (·.1)) (t.map λx=>.int x.2) i=some (.int (val t i))
 |(a,n)::t,i,nd,h=>by
  simp only[keysNd,yQ,List.nodup_cons] at nd;rw[b6];show(if a=i then some (D.int n) else lookD (t.map (·.1)) (t.map λx=>.int x.2) i)=_;by_cases e:a=i
  ·subst e
   rw[yM rfl,yM rfl,dX nd.1,Int.add_zero]
  ·rw[yK e,yK e,oF nd.2 ((List.mem_cons.mp h).resolve_left λh=>e h.symm),Int.zero_add]
theorem rY(x:Int):∀l,(ins x l).length=l.length+1
 |[]=>rfl
 |y::r=>by unfold ins;split<;>simp[rY x r]
theorem iW:∀l,(sortI l).length=l.length
 |[]=>rfl
 |x::r=>(rY x (sortI r)).trans (congrArg (· +1) (iW r))
theorem xV:∀{l:List Int},x∉l->l.Pairwise (· <·)->(ins x l).Pairwise (· <·)
 |[],_,_=>by simp[ins]
 |y::r,h,p=>by
  simp only[zA,not_or] at h;unfold ins;split
  ·rename_i hx
   rw[List.pairwise_cons];refine⟨λz hz=>?_,p⟩;rcases List.mem_cons.mp hz with rfl|hz
   ·exact hx
   ·exact Int.lt_trans hx ((List.pairwise_cons.mp p).1 z hz)
  ·rw[List.pairwise_cons] at p⊢
   refine⟨λz hz=>?_,xV h.2 p.2⟩;rcases(gE x z r).mp hz with rfl|hz
   ·omega
   ·exact p.1 z hz
theorem fC:∀{l:List Int},l.Nodup->(sortI l).Pairwise (· <·)
 |[],_=>List.Pairwise.nil
 |x::r,h=>by
  rw[List.nodup_cons] at h;exact xV (λe=>h.1 ((bJ x r).mp e)) (fC h.2)
noncomputable def telT(t:List (Int×Int)):List (Int×Int):=told (val t) (sortI (t.map (·.1)))
theorem tel_ext(nd:keysNd t)(nd':keysNd t')(h:val t=val t'):telT t=telT t':=by
 unfold telT;rw[h];refine wE (fC nd) (fC nd') (λi hi=>?_) λi hi=>?_
 ·rw[←h] at hi
  exact(bJ i _).mpr (Classical.not_not.mp λe=>hi (dX e))
 ·exact(bJ i _).mpr (Classical.not_not.mp λe=>hi (dX e))
theorem xW(h:gdK t=true):t.length<=128:=by
 unfold gdK longK at h;simp only[Bool.or_eq_true,yU,zQ,yI] at h;omega
theorem pZ(h:gdK t=true):op1 .sorted (tabD t)=.ok (.lst ((sortI (t.map (·.1))).map .int))/\itemsD .seq [.lst ((sortI (t.map (·.1))).map .int)]=.ok ((sortI (t.map (·.1))).map .int):=by
 have l:=xW h;refine⟨yM ?_,aT (by rw[yI,iW,yI];omega)⟩;unfold gdK at h;simpa using h
theorem tel_len(h:gdK t=true):(telT t).length<=128:=by
 unfold telT told;rw[yI];refine zB (List.length_filter_le _ _) ?_;rw[iW,yI];exact xW h
theorem oG{cond:Tx}(f:Int×Int->D)(nd:keysNd t)(h:gdK t=true)(hi:ev Φ G true it δ=.ok (tabD t))(hc:∀i,i∈t.map (·.1)->evT Φ G cond (some (false,.int i)::capOf δ caps)=.ok (decide (val t i≠0)))(he:∀i,i∈t.map (·.1)->ev Φ G false elt (some (false,.int i)::capOf δ caps)=.ok (f (i,val t i))):
  ev Φ G m (.comp .seq [.op1 .sorted it] caps 1 (some cond) elt) δ=.ok (.lst ((telT t).map f)):=by
 obtain⟨s1,s2⟩:=pZ h;have:=oE (Φ:=Φ) (G:=G) (δ:=δ) (m:=m) (k:=.seq) (its:=[.op1 .sorted it]) (caps:=caps) (ntg:=1) (cond:=some cond) (elt:=elt) (a:=D.int) (xs:=sortI (t.map (·.1))) (λi=>decide (val t i≠0)) (λi=>f (i,val t i)) (by rw[evs,ev,hi,aS,s1,aS];exact s2) λi hm=>by
  have hm:=(bJ i _).mp hm;show(evT Φ G cond (some (false,.int i)::capOf δ caps)).bind (λb=>if b then(ev Φ G false elt (some (false,.int i)::capOf δ caps)).bind λy=>.ok (some y) else .ok none)=_;rw[hc i hm,aS];cases decide (val t i≠0)
  ·rfl
  ·rw[he i hm];rfl
 rw[this,telT,told,zY];rfl
theorem gJ(nd:keysNd t)(hm:i∈t.map (·.1))(ha:ev Φ G true a δ=.ok (tabD t))(hb:ev Φ G true b δ=.ok (.int i)):ev Φ G m (.dget a b) δ=.ok (.int (val t i)):=by
 rw[ev,ha,aS,hb,aS];show ofO (lookD (t.map (·.1)) (t.map λx=>.int x.2) i)=_;rw[oF nd hm];rfl
theorem xX(ha:ev Φ G true a δ=.ok (.int x)):evT Φ G (.leaf (.op2 .ne a (.cst (.int 0)))) δ=.ok (decide (x≠0)):=by
 rw[evT,aP ha rfl rfl];show R.ok (!(x==0))=_
 congr 1
 by_cases h:x=0<;>simp[h]
theorem lS(ha:ev Φ G false a δ=.ok x)(hb:ev Φ G false b δ=.ok y):ev Φ G m (.tup [a,b]) δ=.ok (.tup [x,y]):=by
 rw[ev,evs,ha,evs,hb,evs];rfl
end
end Py
namespace L
open Py
noncomputable def b_ends:List Sm:=[(.asg 2 (.lst [])),(.loop .enum [(.op2 .at (.var 0) (.cst (.int 0)))] [3,4] [(.loop .rng [(.cst (.int 4))] [5] [(.ite (.leaf (.op2 .eq (.op2 .at (.var 4) (.var 5)) (.var 1))) [(.app 2 (.tup [(.var 3),(.var 5)]))] [])])]),(.ite (.not (.leaf (.var 2))) [(.rai 0)] []),(.ret (.op1 .tuple (.var 2)))]
noncomputable def rZ:List Sm:=[(.asg 3 (.call 2 [(.var 0),(.var 1)])),(.asg 4 (.comp .seq [(.op2 .at (.glob 0) (.var 2))] [3] 2 none (.tup [(.op2 .at (.var 2) (.var 0)),(.op2 .at (.var 2) (.var 1))]))),(.ret (.call 7 [(.call 6 [(.op2 .at (.var 0) (.cst (.int 0))),(.tup [(.var 1)])]),(.op2 .at (.var 0) (.cst (.int 1))),(.var 4)]))]
noncomputable def jD:List Sm:=[(.ite (.or (.leaf (.op2 .lt (.var 1) (.cst (.int 0)))) (.leaf (.op2 .ge (.var 1) (.op1 .len (.op2 .at (.var 0) (.cst (.int 0))))))) [(.rai 0)] []),(.ret (.op2 .at (.op2 .at (.var 0) (.cst (.int 0))) (.var 1)))]
noncomputable def fD:List Sm:=[(.ret (.op2 .at (.op2 .at (.var 0) (.op2 .at (.var 1) (.cst (.int 0)))) (.op2 .at (.var 1) (.cst (.int 1)))))]
noncomputable def dC:List Sm:=[(.ret (.tup [(.op2 .at (.var 0) (.cst (.int 0))),(.op2 .mod (.op2 .add (.op2 .at (.var 0) (.cst (.int 1))) (.cst (.int 2))) (.cst (.int 4)))]))]
noncomputable def p6:List Sm:=[(.new 2),(.asg 3 (.lst [])),(.loop .seq [(.var 0)] [4] [(.loop .seq [(.var 4)] [5] [(.ite (.leaf (.din true (.var 5) (.var 2))) [(.dput 2 (.var 5) (.dlen (.var 2)))] [])]),(.app 3 (.op1 .tuple (.comp .seq [(.var 4)] [2] 1 none (.dget (.var 1) (.var 0)))))]),(.ret (.tup [(.op1 .tuple (.var 3)),(.var 1)]))]
noncomputable def uD:List Sm:=[(.ret (.comp .enum [(.var 0)] [1] 2 (some (.leaf (.op2 .notIn (.var 0) (.var 2)))) (.var 1)))]
noncomputable def xY:List Sm:=[(.asg 3 (.op1 .list (.var 0))),(.asg 4 (.op1 .list (.var 2))),(.whl (.leaf (.var 4)) [(.asg 5 (.op2 .at (.op2 .at (.var 4) (.cst (.int 0))) (.cst (.int 0)))),(.asg 6 (.op2 .at (.op2 .at (.var 4) (.cst (.int 0))) (.cst (.int 1)))),(.ite (.leaf (.op2 .eq (.var 5) (.var 6))) [(.asg 1 (.op2 .add (.var 1) (.cst (.int 1))))] []),(.asg 3 (.call 8 [(.var 3),(.var 6),(.var 5)])),(.asg 4 (.call 8 [(.slc (.var 4) (some (.cst (.int 1))) none),(.var 6),(.var 5)]))]),(.ret (.call 5 [(.var 3),(.var 1)]))]
noncomputable def uE:List Sm:=[(.ret (.comp .seq [(.var 0)] [2,1] 1 none (.op1 .tuple (.comp .seq [(.var 0)] [1,2] 1 none (.ite (.leaf (.op2 .eq (.var 0) (.var 2))) (.var 1) (.var 0))))))]
noncomputable def lU:List Sm:=[(.ret (.op1 .sum (.comp .rng [(.op1 .len (.op2 .at (.var 0) (.cst (.int 0))))] [0] 1 none (.call 10 [(.var 1),(.var 0)]))))]
noncomputable def p7:List Sm:=[(.asg 2 (.call 12 [(.var 0),(.tup [(.var 1),(.cst (.int 2))])])),(.whl (.leaf (.op2 .ne (.op2 .at (.var 2) (.cst (.int 0))) (.var 1))) [(.asg 2 (.call 11 [(.var 0),(.var 2)]))]),(.ret (.op2 .at (.glob 1) (.op2 .at (.var 2) (.cst (.int 1)))))]
noncomputable def iX:List Sm:=[(.ret (.call 12 [(.var 0),(.call 4 [(.var 1)])]))]
noncomputable def gK:List Sm:=[(.asg 2 (.call 0 [(.var 0),(.call 3 [(.op2 .at (.var 0) (.cst (.int 0))),(.var 1)])])),(.ite (.leaf (.op2 .eq (.op2 .at (.var 2) (.cst (.int 0))) (.var 1))) [(.ret (.op2 .at (.var 2) (.cst (.int 1))))] []),(.ret (.op2 .at (.var 2) (.cst (.int 0))))]
noncomputable def r8:List Sm:=[(.pow 1 0 1),(.ret (.comp .seq [(.op1 .sorted (.var 1))] [1] 1 (some (.leaf (.op2 .ne (.dget (.var 1) (.var 0)) (.cst (.int 0))))) (.tup [(.var 0),(.dget (.var 1) (.var 0))])))]
noncomputable def iY:List Sm:=[(.asg 1 (.call 9 [(.var 0)])),(.asg 2 (.ite (.leaf (.op2 .eq (.op2 .mod (.var 1) (.cst (.int 2))) (.cst (.int 0)))) (.cst (.int 1)) (.op1 .neg (.cst (.int 1))))),(.ret (.comp .seq [(.call 13 [(.var 0)])] [2,1] 2 none (.tup [(.op2 .sub (.var 0) (.op2 .mul (.cst (.int 3)) (.var 3))),(.op2 .mul (.var 2) (.var 1))])))]
noncomputable def p8:List Sm:=[(.ret (.op1 .neg (.cst .non)))]
noncomputable def lV:List Sm:=[(.ret (.op1 .neg (.cst .non)))]
noncomputable def fY:List Sm:=[(.ret (.op1 .neg (.cst .non)))]
noncomputable def xZ:List Sm:=[(.ret (.op1 .neg (.cst .non)))]
noncomputable def lW:List Sm:=[(.ret (.op1 .neg (.cst .non)))]
noncomputable def x6:List Sm:=[(.ret (.op1 .neg (.cst .non)))]
noncomputable def jE:List Sm:=[(.ite (.leaf (.op2 .lt (.var 1) (.op1 .len (.var 0)))) [(.ret (.op2 .at (.var 0) (.var 1)))] []),(.ret (.cst (.int 0)))]
noncomputable def p9:List Sm:=[(.ite (.leaf (.op2 .lt (.var 1) (.op1 .len (.var 0)))) [(.ret (.op2 .at (.var 0) (.var 1)))] []),(.ret (.op2 .fdiv (.op2 .mod (.op2 .mul (.op2 .add (.op2 .add (.call 21 [(.var 0),(.cst (.int 0))]) (.op2 .mul (.cst (.int 7)) (.var 1))) (.cst (.int 3))) (.cst (.int 48271))) (.cst (.int 2147483647))) (.cst (.int 13))))]
noncomputable def qA:List Sm:=[(.asg 4 (.comp .rng [(.op2 .mul (.cst (.int 4)) (.var 2))] [] 1 none (.op1 .neg (.cst (.int 1))))),(.loop .rng [(.op1 .len (.var 3))] [5] [(.put 4 (.op2 .at (.op2 .at (.var 3) (.var 5)) (.cst (.int 0))) (.var 5)),(.put 4 (.op2 .at (.op2 .at (.var 3) (.var 5)) (.cst (.int 1))) (.var 5))]),(.asg 6 (.comp .rng [(.op2 .mul (.cst (.int 4)) (.var 2))] [4] 1 (some (.leaf (.op2 .lt (.op2 .at (.var 1) (.var 0)) (.cst (.int 0))))) (.var 0))),(.asg 7 (.op1 .len (.var 3))),(.whl (.leaf (.op2 .gt (.op1 .len (.var 6)) (.cst (.int 1)))) [(.asg 8 (.op2 .add (.cst (.int 1)) (.op2 .mod (.call 22 [(.var 0),(.op2 .add (.var 1) (.var 7))]) (.op2 .sub (.op1 .len (.var 6)) (.cst (.int 1)))))),(.put 4 (.op2 .at (.var 6) (.cst (.int 0))) (.var 7)),(.put 4 (.op2 .at (.var 6) (.var 8)) (.var 7)),(.asg 6 (.op2 .add (.slc (.var 6) (some (.cst (.int 1))) (some (.var 8))) (.slc (.var 6) (some (.op2 .add (.var 8) (.cst (.int 1)))) none))),(.asg 7 (.op2 .add (.var 7) (.cst (.int 1))))]),(.ret (.comp .rng [(.var 2)] [4] 1 none (.op1 .tuple (.slc (.var 1) (some (.op2 .mul (.cst (.int 4)) (.var 0))) (some (.op2 .add (.op2 .mul (.cst (.int 4)) (.var 0)) (.cst (.int 4))))))))]
noncomputable def iZ:List Sm:=[(.asg 1 (.lst [])),(.loop .seq [(.var 0)] [2] [(.loop .seq [(.var 2)] [3] [(.ite (.leaf (.op2 .notIn (.var 3) (.var 1))) [(.app 1 (.var 3))] [])])]),(.asg 4 (.lst [])),(.loop .seq [(.var 0)] [2] [(.app 4 (.op1 .tuple (.comp .seq [(.var 2)] [1] 1 none (.op2 .index (.var 1) (.var 0)))))]),(.ret (.op1 .tuple (.var 4)))]
noncomputable def oH:List Sm:=[(.ret (.and (.op1 .isInt (.var 0)) (.not (.op1 .isBool (.var 0)))))]
noncomputable def dD:List Sm:=[(.asg 2 (.op2 .at (.op2 .at (.var 0) (.op2 .at (.var 1) (.cst (.int 0)))) (.op2 .at (.var 1) (.cst (.int 1))))),(.loop .rng [(.op1 .len (.var 0))] [3] [(.loop .rng [(.cst (.int 4))] [4] [(.ite (.and (.leaf (.op2 .eq (.op2 .at (.op2 .at (.var 0) (.var 3)) (.var 4)) (.var 2))) (.leaf (.op2 .ne (.tup [(.var 3),(.var 4)]) (.var 1)))) [(.ret (.tup [(.var 3),(.var 4)]))] [])])]),(.ret (.var 1))]
noncomputable def cE:List Sm:=[(.asg 1 (.cst (.int 0))),(.loop .rng [(.op1 .len (.var 0))] [2] [(.asg 3 (.call 26 [(.var 0),(.tup [(.var 2),(.cst (.int 2))])])),(.whl (.leaf (.op2 .ne (.op2 .at (.var 3) (.cst (.int 0))) (.var 2))) [(.asg 3 (.call 26 [(.var 0),(.tup [(.op2 .at (.var 3) (.cst (.int 0))),(.op2 .mod (.op2 .add (.op2 .at (.var 3) (.cst (.int 1))) (.cst (.int 2))) (.cst (.int 4)))])]))]),(.ite (.leaf (.op2 .eq (.op2 .at (.var 3) (.cst (.int 1))) (.cst (.int 3)))) [(.asg 1 (.op2 .add (.var 1) (.cst (.int 1))))] []),(.ite (.leaf (.op2 .eq (.op2 .at (.var 3) (.cst (.int 1))) (.cst (.int 1)))) [(.asg 1 (.op2 .sub (.var 1) (.cst (.int 1))))] [])]),(.ret (.var 1))]
noncomputable def oI:List Sm:=[.rgs]
noncomputable def i6:List Sm:=[(.asg 1 (.lst [(.lst [])])),(.loop .rng [(.var 0)] [2] [(.asg 1 (.op2 .add (.comp .seq [(.var 1)] [] 1 none (.op2 .add (.var 0) (.lst [(.cst (.int 0))]))) (.comp .seq [(.var 1)] [] 1 none (.op2 .add (.var 0) (.lst [(.cst (.int 1))])))))]),(.ret (.var 1))]
noncomputable def cO:List Sm:=[(.asg 1 (.lst [(.cst (.int 1))])),(.loop .rng [(.var 0)] [2] [(.asg 3 (.lst [(.cst (.int 1))])),(.loop .rng [(.op2 .sub (.op1 .len (.var 1)) (.cst (.int 1)))] [4] [(.app 3 (.op2 .add (.op2 .at (.var 1) (.var 4)) (.op2 .at (.var 1) (.op2 .add (.var 4) (.cst (.int 1))))))]),(.asg 1 (.op2 .add (.var 3) (.lst [(.cst (.int 1))])))]),(.ret (.var 1))]
noncomputable def uF:List Sm:=[(.ret (.op1 .neg (.cst .non)))]
noncomputable def fR:List Sm:=[(.new 2),(.loop .seq [(.call 29 [(.op1 .len (.var 0))])] [3] [(.asg 4 (.lst [])),(.loop .rng [(.op1 .len (.var 0))] [5] [(.asg 6 (.op2 .at (.var 0) (.var 5))),(.ite (.leaf (.op2 .eq (.op2 .at (.var 3) (.var 5)) (.cst (.int 0)))) [(.asg 4 (.op2 .add (.var 4) (.lst [(.tup [(.op2 .at (.var 6) (.cst (.int 0))),(.op2 .at (.var 6) (.cst (.int 1)))]),(.tup [(.op2 .at (.var 6) (.cst (.int 2))),(.op2 .at (.var 6) (.cst (.int 3)))])])))] [(.asg 4 (.op2 .add (.var 4) (.lst [(.tup [(.op2 .at (.var 6) (.cst (.int 0))),(.op2 .at (.var 6) (.cst (.int 3)))]),(.tup [(.op2 .at (.var 6) (.cst (.int 1))),(.op2 .at (.var 6) (.cst (.int 2)))])])))])]),(.ladd 2 30 (.op2 .sub (.op1 .len (.var 0)) (.op2 .mul (.cst (.int 2)) (.op1 .sum (.var 3)))) (.op2 .add (.var 1) (.call 28 [(.var 4)])))]),(.ret (.var 2))]
noncomputable def lX:List Sm:=[(.ret (.comp .seq [(.op1 .sorted (.var 0))] [1,2,0] 1 (some (.leaf (.op2 .ne (.dget (.var 3) (.var 0)) (.cst (.int 0))))) (.tup [(.op2 .add (.var 0) (.var 1)),(.op2 .mul (.var 2) (.dget (.var 3) (.var 0)))])))]
noncomputable def fS:List Sm:=[(.ite (.or (.not (.leaf (.op1 .isLst (.var 0)))) (.leaf (.op2 .ne (.op1 .len (.var 0)) (.op1 .len (.var 1))))) [(.ret (.cst (.bl false)))] []),(.loop .rng [(.op1 .len (.var 1))] [2] [(.ite (.or (.not (.leaf (.op1 .isTup (.op2 .at (.var 0) (.var 2))))) (.leaf (.op2 .ne (.op1 .len (.op2 .at (.var 0) (.var 2))) (.cst (.int 2))))) [(.ret (.cst (.bl false)))] []),(.ite (.or (.not (.leaf (.call 25 [(.op2 .at (.op2 .at (.var 0) (.var 2)) (.cst (.int 0)))]))) (.or (.not (.leaf (.call 25 [(.op2 .at (.op2 .at (.var 0) (.var 2)) (.cst (.int 1)))]))) (.leaf (.op2 .ne (.op2 .at (.var 0) (.var 2)) (.op2 .at (.var 1) (.var 2)))))) [(.ret (.cst (.bl false)))] [])]),(.ret (.cst (.bl true)))]
noncomputable def b_law:List Sm:=[(.asg 1 (.op2 .mod (.call 21 [(.var 0),(.cst (.int 0))]) (.cst (.int 5)))),(.asg 2 (.op2 .mod (.call 21 [(.var 0),(.cst (.int 1))]) (.cst (.int 7)))),(.ite (.leaf (.op2 .eq (.op2 .mod (.call 21 [(.var 0),(.cst (.int 2))]) (.cst (.int 8))) (.cst (.int 1)))) [(.asg 1 (.op2 .mod (.var 1) (.cst (.int 2)))),(.asg 2 (.op2 .mod (.call 21 [(.var 0),(.cst (.int 1))]) (.cst (.int 61))))] []),(.ite (.leaf (.op2 .eq (.op2 .mod (.call 21 [(.var 0),(.cst (.int 2))]) (.cst (.int 8))) (.cst (.int 2)))) [(.asg 1 (.op2 .add (.cst (.int 5)) (.op2 .mod (.op2 .fdiv (.call 21 [(.var 0),(.cst (.int 0))]) (.cst (.int 5))) (.cst (.int 5)))))] []),(.asg 3 (.call 24 [(.call 23 [(.var 0),(.cst (.int 3)),(.var 1),(.lst [])])])),(.asg 4 (.call 32 [(.var 3),(.var 2)])),(.ite (.not (.leaf (.call 34 [(.call 13 [(.tup [(.var 3),(.var 2)])]),(.call 33 [(.var 4),(.cst (.int 0)),(.cst (.int 1))])]))) [(.ret (.cst (.bl false)))] []),(.asg 5 (.call 27 [(.var 3)])),(.ret (.call 34 [(.call 14 [(.tup [(.var 3),(.var 2)])]),(.call 33 [(.var 4),(.op2 .mul (.op1 .neg (.cst (.int 3))) (.var 5)),(.op2 .sub (.cst (.int 1)) (.op2 .mul (.cst (.int 2)) (.op2 .mod (.var 5) (.cst (.int 2)))))])]))]
noncomputable def prog:Prog:=⟨[⟨2,6,b_ends⟩,⟨3,5,rZ⟩,⟨2,2,jD⟩,⟨2,2,fD⟩,⟨1,1,dC⟩,⟨2,6,p6⟩,⟨2,2,uD⟩,⟨3,7,xY⟩,⟨3,3,uE⟩,⟨1,1,lU⟩,⟨2,3,p7⟩,⟨2,2,iX⟩,⟨2,3,gK⟩,⟨1,2,r8⟩,⟨1,3,iY⟩,⟨1,3,p8⟩,⟨1,5,lV⟩,⟨1,4,fY⟩,⟨1,6,xZ⟩,⟨1,5,lW⟩,⟨3,3,x6⟩,⟨2,2,jE⟩,⟨2,2,p9⟩,⟨4,9,qA⟩,⟨1,5,iZ⟩,⟨1,1,oH⟩,⟨2,5,dD⟩,⟨1,4,cE⟩,⟨1,6,oI⟩,⟨1,3,i6⟩,⟨1,5,cO⟩,⟨3,6,uF⟩,⟨2,7,fR⟩,⟨3,3,lX⟩,⟨2,3,fS⟩,⟨1,6,b_law⟩],[(.tup [(.tup [(.tup [(.int 0),(.int 1)]),(.tup [(.int 2),(.int 3)])]),(.tup [(.tup [(.int 0),(.int 3)]),(.tup [(.int 1),(.int 2)])])]),(.tup [(.int 0),(.int (-1)),(.int 0),(.int 1)]),(.tup [(.int 1),(.int (-1))]),(.tup [(.int 2),(.int (-2))])]⟩
noncomputable def lawId:Nat:=35
end L
namespace L
open PySem PySem.Spec PyProof.Rows L2 L2.Snd Py
structure FT(K:W.Frag)(mg:Str->Option Value)(fa:Nat->Addr)(fd:Nat->FuncData)(i:Nat):Prop where
 m:mg (nm i)=some (.ref (fa i))
 b:Binds K (fd i) (Ps i) []
 F:Fun K (nm i) (nm i) (sT i) (fa i) (fd i)
structure Txt(K:W.Frag)(mg:Str->Option Value)(cl fa:Nat->Addr)(fd:Nat->FuncData):Prop where
 n:∀x,bl.contains x=true->mg x=none
 f:∀i,i<36->FT K mg fa fd i
 c_NoPlace:mg "NoPlace"=some (.ref (cl 0))
 x_0:ExcCls K (cl 0)
 h_RING_POWERS:GlobT K mg "RING_POWERS" (.tup [(.int 2),(.int (-2))])
 h_SHIFTS:GlobT K mg "SHIFTS" (.tup [(.int 1),(.int (-1))])
 h_SPLITS:GlobT K mg "SPLITS" (.tup [(.tup [(.tup [(.int 0),(.int 1)]),(.tup [(.int 2),(.int 3)])]),(.tup [(.tup [(.int 0),(.int 3)]),(.tup [(.int 1),(.int 2)])])])
 h_TURNS:GlobT K mg "TURNS" (.tup [(.int 0),(.int (-1)),(.int 0),(.int 1)])
theorem Txt.m{K:W.Frag}(T:Txt K mg cl fa fd)(h:i<36)(e:nm i=x):mg x=some (.ref (fa i)):=e▸(T.f i h).m
section
variable{P:Program}{w:World}{K:W.Frag}{mg:Str->Option Value}{base:Heap}{cl fa:Nat->Addr}{fd:Nat->FuncData}{j:Nat}
theorem Txt.g_RING_POWERS(T:Txt K mg cl fa fd){X:Cx}{XE:Nat->L2.St->Hp->Prop}{Φ:Nat->List D->R D}{m:Bool}{pos:Pos}(hK:X.K=K:=by rfl)(hM:X.mg=mg:=by rfl)(hg:Gl X "RING_POWERS":=by rfl):OkE X cl XE Φ prog.gls m (.glob 3) (.Name "RING_POWERS" pos):=by
 obtain⟨v,u,h,r,hr⟩:=T.h_RING_POWERS;exact f9 (v:=v) hg (by rw[hM];exact h) r (by decide) λd e F H=>by cases e;rw[hK];exact hr cl F H
theorem Txt.g_SHIFTS(T:Txt K mg cl fa fd){X:Cx}{XE:Nat->L2.St->Hp->Prop}{Φ:Nat->List D->R D}{m:Bool}{pos:Pos}(hK:X.K=K:=by rfl)(hM:X.mg=mg:=by rfl)(hg:Gl X "SHIFTS":=by rfl):OkE X cl XE Φ prog.gls m (.glob 2) (.Name "SHIFTS" pos):=by
 obtain⟨v,u,h,r,hr⟩:=T.h_SHIFTS;exact f9 (v:=v) hg (by rw[hM];exact h) r (by decide) λd e F H=>by cases e;rw[hK];exact hr cl F H
theorem Txt.g_SPLITS(T:Txt K mg cl fa fd){X:Cx}{XE:Nat->L2.St->Hp->Prop}{Φ:Nat->List D->R D}{m:Bool}{pos:Pos}(hK:X.K=K:=by rfl)(hM:X.mg=mg:=by rfl)(hg:Gl X "SPLITS":=by rfl):OkE X cl XE Φ prog.gls m (.glob 0) (.Name "SPLITS" pos):=by
 obtain⟨v,u,h,r,hr⟩:=T.h_SPLITS;exact f9 (v:=v) hg (by rw[hM];exact h) r (by decide) λd e F H=>by cases e;rw[hK];exact hr cl F H
theorem Txt.g_TURNS(T:Txt K mg cl fa fd){X:Cx}{XE:Nat->L2.St->Hp->Prop}{Φ:Nat->List D->R D}{m:Bool}{pos:Pos}(hK:X.K=K:=by rfl)(hM:X.mg=mg:=by rfl)(hg:Gl X "TURNS":=by rfl):OkE X cl XE Φ prog.gls m (.glob 1) (.Name "TURNS" pos):=by
 obtain⟨v,u,h,r,hr⟩:=T.h_TURNS;exact f9 (v:=v) hg (by rw[hM];exact h) r (by decide) λd e F H=>by cases e;rw[hK];exact hr cl F H
noncomputable abbrev xn(i:Nat):Str:=(["NoPlace"]:List Str).getD i ""
noncomputable abbrev Cs(P:Program)(w:World)(K:W.Frag)(mg:Str->Option Value)(base:Heap)(cl fa:Nat->Addr)(fd:Nat->FuncData)(j:Nat):Prop:=∀i,i<36->FnOk P w K mg base (CXE P w) (4*j+4) (fa i) (fd i) (Ps i) (spOf K cl (Phi prog j) i)
set_option maxHeartbeats 0
noncomputable abbrev ScD(i:Nat):Prop:=(defScope (sT i)).kind=.function/\(defScope (sT i)).isCoroutine=false/\(defScope (sT i)).isGenerator=false/\(Nn i).Nodup/\(∀x∈Ps i,(defScope (sT i)).names.lookup x=some .local\/(defScope (sT i)).names.lookup x=some .cell)/\∀y∈(defScope (sT i)).names,y.2≠.free
theorem sc:∀i,i<36->FnScope (Nn i) (Ps i) (defScope (sT i)):=λi hi=>
 have ⟨a,b,c,d,e,f⟩:=(by decide+kernel:∀i,i<36->ScD i) i hi
 ⟨a,b,c,d,by simp,e,f⟩
variable{k:Nat}
theorem sA(T:Txt K mg cl fa fd):FnOk P w K mg base (CXE P w) (k+2) (fa 20) (fd 20) (Ps 20) (spAdd K):=by
 have nd:=(sc 20 (by decide)).nd;exact fn_L (t:=λ_=>tAddB K) (T.f 20 (by decide)).F (sc 20 (by decide)) (λvs H Q E h=>by obtain⟨_,_,_,_,_,_,rfl,_⟩:=h;rfl) (λh=>wQ h) λcd A outer s H E hr=>have hu:=aY hr;aI (kO (oP (pO hu aC (pa_cons aC (pa_cons aG pa_nil))) aC) (wX aC aC (set_X hu)))
theorem I_times(T:Txt K mg cl fa fd):FnOk P w K mg base (CXE P w) (k+3) (fa 19) (fd 19) (Ps 19) (spTimes):=by
 have nd:=(sc 19 (by decide)).nd;obtain⟨v,u,h,r,hq⟩:=T.h_RING_POWERS;obtain⟨a,rfl,hs⟩:=rN hq;exact fn_L (t:=λ_=>tTimesB K (.ref a) (Ne cl)) (T.f 19 (by decide)).F (sc 19 (by decide)) (λvs H Q E h=>by obtain⟨_,_,rfl,_⟩:=h;rfl) (λh=>pK hs h) λcd A outer s H E hr=>have hu:=aY hr;aE (bC nd bI) (aE (cA (gH aC) (rM nd) (aI (cA (kP (kL (by rfl) h r)) (iF nd) (aI (iG (aW (cl:=cl) (sA T) hr (T.f 20 (by decide)).m (T.f 20 (by decide)).F.kp (T.f 20 (by decide)).b (pa_cons aC (pa_cons (oP aC aC) (pa_cons (qK kQ aC) pa_nil))))))))) (aI (cP aC)))
theorem x8(T:Txt K mg cl fa fd):FnOk P w K mg base (CXE P w) (k+4) (fa 18) (fd 18) (Ps 18) (spSummed):=by
 have nd:=(sc 18 (by decide)).nd;exact fn_L (t:=λ_=>tSummedB K (Ne cl) (Ne cl)) (T.f 18 (by decide)).F (sc 18 (by decide)) (λvs H Q E h=>by obtain⟨_,_,_,_,rfl,_⟩:=h;rfl) (λh=>nD h) λcd A outer s H E hr=>have hu:=aY hr;aE (bC nd bI) (aE (cA (q_down (T.n _ rfl) (pa_cons (q_max (T.n _ rfl) (q_lst (T.n _ rfl) aC)) (pa_cons (qK kQ aG) (pa_cons (qK kQ aG) pa_nil)))) (iF nd) (aE (bC nd (aW (cl:=cl) (I_times T) hr (T.f 19 (by decide)).m (T.f 19 (by decide)).F.kp (T.f 19 (by decide)).b (pa_cons aC pa_nil))) (aE (bC nd (pO hu aC (pa_cons aC (pa_cons bI pa_nil)))) (aI (cA (gH aC) (rM nd) (aI (iG (aW (cl:=cl) (sA T) hr (T.f 20 (by decide)).m (T.f 20 (by decide)).F.kp (T.f 20 (by decide)).b (pa_cons aC (pa_cons aC (pa_cons aC pa_nil))))))))))) (aI (cP aC)))
theorem I_by(T:Txt K mg cl fa fd):FnOk P w K mg base (CXE P w) (k+3) (fa 17) (fd 17) (Ps 17) (spBy K):=by
 have nd:=(sc 17 (by decide)).nd;exact fn_L (t:=λ_=>tByB K (Ne cl)) (T.f 17 (by decide)).F (sc 17 (by decide)) (λvs H Q E h=>by obtain⟨_,_,_,rfl,_⟩:=h;rfl) (λh=>by_body h) λcd A outer s H E hr=>have hu:=aY hr;aE (bC nd bI) (aE (cA (gH aC) (rM nd) (aI (iG (aW (cl:=cl) (sA T) hr (T.f 20 (by decide)).m (T.f 20 (by decide)).F.kp (T.f 20 (by decide)).b (pa_cons (q_setd aC (pa_cons (iD (iD aC aG) aG) (pa_cons bI pa_nil))) (pa_cons (iD aC aG) (pa_cons aC pa_nil))))))) (aI (cP aC)))
theorem I_once(T:Txt K mg cl fa fd)(C:Cs P w K mg base cl fa fd j):FnOk P w K mg base (CXE P w) (4*j+5) (fa 16) (fd 16) (Ps 16) (spOnce K (Phi prog j) 1):=by
 have nd:=(sc 16 (by decide)).nd;obtain⟨v,u,h,r,hq⟩:=T.h_SHIFTS;obtain⟨a,rfl,hs⟩:=rN hq;exact fn_L (t:=λ_=>tOnceB K cl (Phi prog j) 1 (.ref a) (Ne cl) (Ne cl)) (T.f 16 (by decide)).F (sc 16 (by decide)) (λvs H Q E h=>by obtain⟨_,_,_,_,rfl,_⟩:=h;rfl) (λh=>tP hs h) λcd A outer s H E hr=>have hu:=aY hr;aE (bC nd wO) (aE (cA (gH aC) (rM nd) (aI (cA (kP (kS (pa_cons aG (pa_cons aG pa_nil)))) (iF nd) (aI (iG (aW (cl:=cl) (sA T) hr (T.f 20 (by decide)).m (T.f 20 (by decide)).F.kp (T.f 20 (by decide)).b (pa_cons aC (pa_cons (kS (pa_cons (aW (cl:=cl) (C 1 (by decide)) hr (T.f 1 (by decide)).m (T.f 1 (by decide)).F.kp (T.f 1 (by decide)).b (pa_cons (iD aC aG) (pa_cons aG (pa_cons aC pa_nil)))) (pa_cons (oP (iD aC aG) (iD (kL (by rfl) h r) aC)) pa_nil))) (pa_cons aC pa_nil))))))))) (aI (cP aC)))
theorem I_up(T:Txt K mg cl fa fd)(C:Cs P w K mg base cl fa fd j):FnOk P w K mg base (CXE P w) (4*j+6) (fa 15) (fd 15) (Ps 15) (spUp K (Phi prog j) 1):=by
 have nd:=(sc 15 (by decide)).nd;exact fn_L (t:=λ_=>tUpB K (Phi prog j) 1 (Ne cl)) (T.f 15 (by decide)).F (sc 15 (by decide)) (λvs H Q E h=>by obtain⟨_,_,_,rfl,_⟩:=h;rfl) (λh=>up_body h) λcd A outer s H E hr=>have hu:=aY hr;aE (bC nd (wU hu (kS (pa_cons aC (pa_cons aG pa_nil))) aG)) (aE (cA (kP (iD aC aG)) (iF nd) (aI (bC nd (aW (cl:=cl) (I_once T C) hr (T.f 16 (by decide)).m (T.f 16 (by decide)).F.kp (T.f 16 (by decide)).b (pa_cons aC pa_nil))))) (aI (cP aC)))
theorem I_la(T:Txt K mg cl fa fd)(C:Cs P w K mg base cl fa fd j):FnOk P w K mg base (CXE P w) (4*j+5) (fa 31) (fd 31) (Ps 31) (spLA (Phi prog j) 30):=by
 have nd:=(sc 31 (by decide)).nd;exact fn_L (t:=λ_=>tLA K cl (Phi prog j) 30 (Ne cl)) (T.f 31 (by decide)).F (sc 31 (by decide)) (λvs H Q E h=>by obtain⟨_,_,_,_,_,rfl,_⟩:=h;rfl) (λh=>la_body h) λcd A outer s H E hr=>have hu:=aY hr;aE (bC nd (aW (cl:=cl) (C 30 (by decide)) hr (T.f 30 (by decide)).m (T.f 30 (by decide)).F.kp (T.f 30 (by decide)).b (pa_cons aC pa_nil))) (aI (cA (wY (T.n _ rfl) (pa_cons (q_len (T.n _ rfl) aC) pa_nil)) (iF nd) (aE (bC nd (bV oU (bV op_add aC (bV gN aG aC)) (bV gN aG aC))) (aI (kO (bV op_add (pO hu aC (pa_cons aC (pa_cons aG pa_nil))) (bV gN (iE aC aC) (bV oU aG (bV gN aG (bV uT aC aG))))) (wX aC aC (set_X hu)))))))
theorem x9(T:Txt K mg cl fa fd)(O:∀{c x},c<1->xn c=x->OwnCls x (cl c) bmV "ValueError.__new__" mg base):∀j,Cs P w K mg base cl fa fd j
 |0,i,_=>v4
 |j+1,i,hi=>by
  have C:=x9 T O j
  match i,hi with
  |15,_=>exact bQ (bR rfl _)
  |16,_=>exact bQ (bR rfl _)
  |17,_=>exact bQ (bR rfl _)
  |18,_=>exact bQ (bR rfl _)
  |19,_=>exact bQ (bR rfl _)
  |20,_=>exact bQ (bR rfl _)
  |28,_=>exact v3 (k:=4*j+7) (T.f _ (by decide)).F (sc _ (by decide)) rfl rfl rfl λcd A outer s H E hr=>have h7:=hr;have hr:=hr.mono (show 4*j+4<=4*j+7 by omega);have hu:=aY hr;have nd:=(sc 28 (by decide)).nd;(oks_rgs (p_copyC (Φ:=Phi prog j) (G:=prog.gls) (["two"]:List Str) (jT (by rfl)) nd (T.n _ rfl) rfl (vV v7) (λ_ _ _ _ _=>v9 (show(["two"]:List Str).Nodup from by decide+kernel)) (λ_ _ _ _ _=>v7) (λ_ _ _ _ _=>⟨by rfl,by rfl⟩)) (bC nd aG) (q_while (kM (pc_gt (q_len (T.n _ rfl) aC) aG)) (aE (bC nd (iE aC aG)) (aE (bC nd (mG sl_list aC (qO aG) qN)) (aE (uP (kM (uN (iE aC aG) (iE aC aG))) (aI (bC nd (bV op_add aC aG))) kN) (aI (cA (qJ aC) (iF nd) (aI (cA (wY (T.n _ rfl) (pa_cons aG pa_nil)) (iF nd) (aI (uP (kM (uN (iE aC aC) (iE aC aG))) (aI (kO (iE aC aG) (wX aC aC mH))) kN)))))))))) (cP aC))
  |31,_=>exact bQ (bR rfl _)
  |0,h|1,h|2,h|3,h|4,h|5,h|6,h|7,h|8,h|9,h|10,h|11,h|12,h|13,h|14,h|21,h|22,h|23,h|24,h|25,h|26,h|27,h|29,h|30,h|32,h|33,h|34,h|35,h=>
   refine v3 (k:=4*j+7) (T.f _ h).F (sc _ h) rfl rfl rfl λcd A outer s H E hr=>?_;have h7:=hr;have hr:=hr.mono (show 4*j+4<=4*j+7 by omega);have hu:=aY hr;have nd:=(sc _ h).nd
   repeat' first
    |exact v7
    |refine vX ?_ ?_
    |refine x_cons ?_ ?_
    |exact ok_int
    |exact oks_nil
    |exact bG
    |refine x_at ?_ ?_
    |refine s_asg nd ?_
    |refine x_call (C _ (by decide)) hr (T.m (by decide) (by rfl)) (T.f _ (by decide)).F.kp (T.f _ (by decide)).b (by first|exact λ_=>g4|exact wA rfl qT|exact wA rfl tox_try|exact pass_c hE) ?_
    |refine oks_ret ?_
    |refine t_cm ?_
    |refine x_add ?_ ?_
    |refine oks_if ?_ ?_ ?_
    |refine x_tup ?_
    |refine x_len (T.n _ rfl) ?_
    |refine s_loop ?_ (by first|exact v9 nd|exact g_two nd) ?_
    |refine vV ?_
    |refine x_lst ?_
    |refine i_rng (T.n _ rfl) ?_
    |refine x_mod ?_ ?_
    |refine x_comp ?_ (λ_ _ _ _ _=>?_) λ_ _ _ _ _=>?_
    |refine x_mul ?_ ?_
    |refine c_eq hu ?_ ?_
    |exact mM
    |refine c_ne hu ?_ ?_
    |refine x_tuple (T.n _ rfl) ?_
    |refine ok_tnot ?_
    |refine vL ?_
    |refine x_sub ?_ ?_
    |refine s_app ?_
    |refine ok_tor ?_ ?_
    |refine x_dget hu ?_ ?_
    |exact ok_bl
    |refine c_lt ?_ ?_
    |refine ok_tor1 ?_
    |refine vT ?_
    |refine tD ?_ ?_
    |refine ok_slc ?_ ?_ ?_
    |refine s_put ?_ ?_
    |refine x_neg ?_
    |refine i_enum (T.n _ rfl) ?_
    |exact s_raise (by first|exact qT|exact ToX.never|exact tox_try) (O (by decide) (by rfl)) PySem.F.excBase_ValueError (by decide) PySem.F.excBase_ValueError
    |exact s_new nd
    |refine c_nin ?_ ?_
    |refine x_list (T.n _ rfl) ?_
    |exact vK
    |refine ok_ite ?_ ?_ ?_
    |refine x_sum (T.n _ rfl) ?_
    |refine wW tS (T.n _ rfl) ?_
    |refine x_fdiv ?_ ?_
    |exact T.g_SPLITS
    |refine c_ge ?_ ?_
    |refine c_din true hu ?_ ?_
    |refine s_dput hu ?_ ?_
    |refine x_dlen (T.n _ rfl) ?_
    |exact T.g_TURNS
    |exact oks_pow (bC nd (aW (cl:=cl) (x8 T) h7 (T.f 18 (by decide)).m (T.f 18 (by decide)).F.kp (T.f 18 (by decide)).b (pa_cons (aW (cl:=cl) (I_by T) h7 (T.f 17 (by decide)).m (T.f 17 (by decide)).F.kp (T.f 17 (by decide)).b (pa_cons (aW (cl:=cl) (I_up T C) (h7.mono (by omega)) (T.f 15 (by decide)).m (T.f 15 (by decide)).F.kp (T.f 15 (by decide)).b (pa_cons aC pa_nil)) pa_nil)) pa_nil)))
    |refine c_gt ?_ ?_
    |refine x_index ?_ ?_
    |refine ok_and ?_ ?_
    |refine x_isInt (T.n _ rfl) (T.n _ rfl) ?_
    |refine ok_one ?_
    |refine ok_not ?_
    |refine v8 (T.n _ rfl) (T.n _ rfl) ?_
    |refine ok_tand ?_ ?_
    |refine vS ?_
    |refine wV ?_ ?_ λ_ _ hp hq=>iG (aW (cl:=cl) (I_la T C) (h7.mono (by omega)) (T.f 31 (by decide)).m (T.f 31 (by decide)).F.kp (T.f 31 (by decide)).b (pa_cons aC (pa_cons hp (pa_cons hq pa_nil))))
    |refine x_isLst (T.n _ rfl) (T.n _ rfl) ?_
    |refine x_isTup (T.n _ rfl) (T.n _ rfl) ?_
    |refine t_leaf ?_
    |refine OkW.t ?_
    |refine s_asgC nd ?_ (λ_ _ _ _ _=>?_) λ_ _ _ _ _=>?_
  |n+36,h=>exact absurd h (by omega)
end
noncomputable abbrev Bn(i:Nat):Prop:=∀(kV dc pm:Value)(an:Option Addr)(cd ct:Value)(us:List Value),us.length=(Ps i).length->bindArgs (W.fnOf (nm i) (nm i) (defArgs (sT i)) (defBody (sT i)) (defScope (sT i)) .none kV dc pm an cd ct) ⟨us,[]⟩=pure ((Ps i).zip us)
theorem bn:∀i,i<36->Bn i:=λi hi=>by
 match i,hi with
 |0,_|1,_|2,_|3,_|4,_|5,_|6,_|7,_|8,_|9,_|10,_|11,_|12,_|13,_|14,_|15,_|16,_|17,_|18,_|19,_|20,_|21,_|22,_|23,_|24,_|25,_|26,_|27,_|28,_|29,_|30,_|31,_|32,_|33,_|34,_|35,_=>exact λ_ _ _ _ _ _ us hl=>(by first|(obtain⟨_,rfl⟩:=us1 hl;rfl)|(obtain⟨_,_,rfl⟩:=us2 hl;rfl)|(obtain⟨_,_,_,rfl⟩:=us3 hl;rfl)|(obtain⟨_,_,_,_,rfl⟩:=us4 hl;rfl))
 |n+36,h=>exact absurd h (by omega)
theorem ft_mk{K:W.Frag}(X:K.In h)(G:h.Ns mainGlobals mg)(hF:FH K i)(hb:Bn i):∃(f:Addr)(fd:FuncData),mg (nm i)=some (.ref f)/\Binds K fd (Ps i) []/\Fun K (nm i) (nm i) (sT i) f fd:=by
 obtain⟨f,oc,kV,dc,pm,cd,ct,od,an,sl,a,b,c,k⟩:=hF;have F:=fun_mk b c k;exact⟨f,_,W.mg_of X G a,F.binds hb,F⟩
set_option maxHeartbeats 0 in
theorem all_mk{l:W.OpenLaw}{w:World}{K:W.Frag}{h:Heap}{mg mb:Str->Option Value}{mean:ExcName->Option Value}{loose:List Str}{faL:Addr}
  (X:K.In h) (Tp:Top qq loose mean mg mb h) (hfa:mg "law"=some (.ref faL)) (fx:Fx K)
  (j:Nat):∃(fdL:FuncData)(cl:Nat->Addr),(∀(s:Shared)(v:Value),BindsTo s fdL ⟨[v],[]⟩ [("script",v)])/\∀base:Heap,K.In base->base.Ns mainGlobals mg->(∀b o,h.get? b=some o->(∀its n,o.data≠.seq its n)->base.get? b=some o)->
   FnOk l.prog w K mg base (CXE l.prog w) (4*j+4) faL fdL ["script"] (spOf K cl (Phi prog j) lawId):=by
 obtain⟨C0,cd_0,sp0,hF,hB,⟨n_NoPlace,gs,tk,ga0,cc0,ct0_,ss0⟩,⟨ad_RING_POWERS,od_RING_POWERS,sl_RING_POWERS,nn_RING_POWERS,tk_RING_POWERS_0,tk_RING_POWERS_1,gl_RING_POWERS,go_RING_POWERS⟩,⟨ad_SHIFTS,od_SHIFTS,sl_SHIFTS,nn_SHIFTS,tk_SHIFTS_0,tk_SHIFTS_1,gl_SHIFTS,go_SHIFTS⟩,⟨ad_SPLITS_0,od_SPLITS_0,sl_SPLITS_0,nn_SPLITS_0,ad_SPLITS_1,od_SPLITS_1,sl_SPLITS_1,nn_SPLITS_1,ad_SPLITS_2,od_SPLITS_2,sl_SPLITS_2,nn_SPLITS_2,tk_SPLITS_3,tk_SPLITS_4,ad_SPLITS_5,od_SPLITS_5,sl_SPLITS_5,nn_SPLITS_5,tk_SPLITS_6,tk_SPLITS_7,ad_SPLITS_8,od_SPLITS_8,sl_SPLITS_8,nn_SPLITS_8,ad_SPLITS_9,od_SPLITS_9,sl_SPLITS_9,nn_SPLITS_9,tk_SPLITS_10,tk_SPLITS_11,ad_SPLITS_12,od_SPLITS_12,sl_SPLITS_12,nn_SPLITS_12,tk_SPLITS_13,tk_SPLITS_14,gl_SPLITS,go_SPLITS_0,go_SPLITS_1,go_SPLITS_2,go_SPLITS_5,go_SPLITS_8,go_SPLITS_9,go_SPLITS_12⟩,⟨ad_TURNS,od_TURNS,sl_TURNS,nn_TURNS,tk_TURNS_0,tk_TURNS_1,tk_TURNS_2,tk_TURNS_3,gl_TURNS,go_TURNS⟩⟩:=fx;have G:=Tp.g;have hT:∀i,i<36->∃(f:Addr)(fd:FuncData),mg (nm i)=some (.ref f)/\Binds K fd (Ps i) []/\Fun K (nm i) (nm i) (sT i) f fd:=λi hi=>ft_mk X G (hF i hi) (bn i hi);have hT:∀i,∃(f:Addr)(fd:FuncData),i<36->mg (nm i)=some (.ref f)/\Binds K fd (Ps i) []/\Fun K (nm i) (nm i) (sT i) f fd:=λi=>by
  by_cases h:i<36
  ·obtain⟨f,d,z⟩:=hT i h
   exact⟨f,d,λ_=>z⟩
  ·obtain⟨f,d,_⟩:=hT 0 (by decide)
   exact⟨f,d,λz=>absurd z h⟩
 let fa:Nat->Addr:=λi=>(hT i).choose
 let fd:Nat->FuncData:=λi=>(hT i).choose_spec.choose
 have hf:∀i,i<36->FT K mg fa fd i:=λi hi=>by
  obtain⟨a,b,c⟩:=(hT i).choose_spec.choose_spec hi;exact⟨a,b,c⟩
 have eL:fa 35=faL:=(Value.ref.inj (y8 (hfa.symm.trans (hf 35 (by decide)).m))).symm
 let cl:Nat->Addr:=λc=>[C0].getD c C0
 have T:Txt K mg cl fa fd:={
  n:=λx hx=>by
   obtain⟨i,hi,rfl⟩:=List.getElem_of_mem (List.contains_iff_mem.mp hx);have:=hB i hi;rw[List.getD,yS hi] at this;exact W.mg_none_of X G this
  f:=hf
  c_NoPlace:=W.mg_of X G n_NoPlace
  x_0:=⟨ga0.1.1,ga0.1.2,ga0.2.1,gs,tk,ga0.2.2.1,ga0.2.2.2,⟨_,cc0⟩⟩
  h_RING_POWERS:=cU [((2:Int),tk_RING_POWERS_0),((-2:Int),tk_RING_POWERS_1)] (W.mg_of X G gl_RING_POWERS) go_RING_POWERS (show 2<=sizeLine by decide)
  h_SHIFTS:=cU [((1:Int),tk_SHIFTS_0),((-1:Int),tk_SHIFTS_1)] (W.mg_of X G gl_SHIFTS) go_SHIFTS (show 2<=sizeLine by decide)
  h_SPLITS:=globT_v (W.mg_of X G gl_SPLITS) (cV (vs:=[.ref ad_SPLITS_1,.ref ad_SPLITS_8]) go_SPLITS_0 (.cons rfl (.cons rfl .nil)) (.cons (cV (vs:=[.ref ad_SPLITS_2,.ref ad_SPLITS_5]) go_SPLITS_1 (.cons rfl (.cons rfl .nil)) (.cons (cV (vs:=[.int (0),.int (1)]) go_SPLITS_2 (.cons ⟨_,rfl⟩ (.cons ⟨_,rfl⟩ .nil)) (.cons bY (.cons bY .nil)) (show 2<=sizeLine by decide)) (.cons (cV (vs:=[.int (2),.int (3)]) go_SPLITS_5 (.cons ⟨_,rfl⟩ (.cons ⟨_,rfl⟩ .nil)) (.cons bY (.cons bY .nil)) (show 2<=sizeLine by decide)) .nil)) (show 2<=sizeLine by decide)) (.cons (cV (vs:=[.ref ad_SPLITS_9,.ref ad_SPLITS_12]) go_SPLITS_8 (.cons rfl (.cons rfl .nil)) (.cons (cV (vs:=[.int (0),.int (3)]) go_SPLITS_9 (.cons ⟨_,rfl⟩ (.cons ⟨_,rfl⟩ .nil)) (.cons bY (.cons bY .nil)) (show 2<=sizeLine by decide)) (.cons (cV (vs:=[.int (1),.int (2)]) go_SPLITS_12 (.cons ⟨_,rfl⟩ (.cons ⟨_,rfl⟩ .nil)) (.cons bY (.cons bY .nil)) (show 2<=sizeLine by decide)) .nil)) (show 2<=sizeLine by decide)) .nil)) (show 2<=sizeLine by decide))
  h_TURNS:=cU [((0:Int),tk_TURNS_0),((-1:Int),tk_TURNS_1),((0:Int),tk_TURNS_2),((1:Int),tk_TURNS_3)] (W.mg_of X G gl_TURNS) go_TURNS (show 4<=sizeLine by decide)
 }
 refine⟨fd 35,cl,λs v=>?_,λbase kb nb hh=>?_⟩
 ·obtain⟨_,_,_,_,_,_,_,_,_,e,_⟩:=(hf 35 (by decide)).F.ex
  rw[e];exact .of_eq rfl
 rw[←eL];refine x9 T (λ{c x} hc e=>e▸?_) j 35 (by decide)
 match c,hc with
 |0,_=>
  obtain⟨D,OD,_⟩:=Tp.ownAt sp0;cases OD.bound.symm.trans (W.mg_of X G n_NoPlace);exact v5 OD.own hh
 |n+1,h=>exact absurd h (by omega)
end L
namespace L
open Py
noncomputable def depth:Nat:=10
theorem lY(k:Nat)(ns:List Int)(i:Nat):Phi prog (k+1) 21 [.scr ns,.int (i:Nat)]=.ok (.int (cellV ns i)):=by
 show(xecs (Phi prog k) prog.gls 1000 Bcell [some (false,.scr ns),some (false,.int (i:Nat))]).val=_;rw[xC];rfl
theorem yA(k:Nat)(ns:List Int)(i:Nat):Phi prog (k+2) 22 [.scr ns,.int (i:Nat)]=.ok (.int (pickV ns i)):=by
 show(xecs (Phi prog (k+1)) prog.gls 1000 (Bpick 21) [some (false,.scr ns),some (false,.int (i:Nat))]).val=_;rw[pick_run ns i (lY k ns 0)];rfl
theorem p_rows(k:Nat)(ns:List Int)(start m:Nat)(hm:m<=50):Phi prog (k+3) 23 [.scr ns,.int (start:Nat),.int (m:Nat),.lst []]=.ok (.lst ((chunks m (runP (λk=>pickV ns (start+k)) (startP m [])).owner).map rowD)):=by
 show(xecs (Phi prog (k+2)) prog.gls 1000 (Brows 22) [some (false,.scr ns),some (false,.int (start:Nat)),some (false,.int (m:Nat)),some (false,.lst (([]:List (Nat×Nat)).map pairD)),none,none,none,none,none]).val=_;rw[nV (by omega) (by simp) (by simp) (yA k ns) (by decide)];rfl
theorem qB(k:Nat){R:List (List Int)}(h4:∀r∈R,r.length=4)(hL:R.length<=50):Phi prog (k+1) 24 [.lst (R.map rowD)]=.ok (.tup ((numV R).map rowD)):=by
 show(xecs (Phi prog k) prog.gls 1000 Bnumbered [some (false,.lst (R.map rowD)),none,none,none,none]).val=_;have hf:=rV h4;rw[lJ (aT (by simp;omega)) (λr hr=>by rw[h4 r hr];decide) (by omega) (by omega)];rfl
theorem p_whole(k:Nat)(x:Int):Phi prog (k+1) 25 [.int x]=.ok (.bl true):=by
 show(xecs (Phi prog k) prog.gls 1000 Bwhole [some (false,.int x)]).val=_;rw[tW];rfl
theorem p_num(k:Nat){R:List (List Int)}(h4:∀r∈R,r.length=4)(hL:R.length<=50):Phi prog (k+1) 5 [.lst (R.map rowD),.int g]=.ok (shD (numV R) g):=by
 show(xecs (Phi prog k) prog.gls 1000 Bnum [some (false,.lst (R.map rowD)),some (false,.int g),none,none,none,none]).val=_;have hf:=rV h4;rw[xI (aT (by simp;omega)) (λr hr=>by rw[h4 r hr];decide) (by omega) (by omega)];rfl
theorem p_ends(k:Nat)(h4:∀r∈Q,r.length=4)(hQ:Q.length<=50):Phi prog (k+1) 0 [shD Q g,.int line]=if placesV Q line=[] then .exc 0 else .ok (.tup ((placesV Q line).map pairD)):=by
 show(xecs (Phi prog k) prog.gls 1000 (Bends 0) [some (false,.tup [.tup (Q.map rowD),.int g]),some (false,.int line),none,none,none,none]).val=_;exact xF h4 (by omega)
theorem p_rowsF(k:Nat)(ns:List Int)(start m:Nat)(hm:m<=50)(hl:fx.length<=1000)(hf:∀x∈fx,x.1<4*m/\x.2<4*m):Phi prog (k+3) 23 [.scr ns,.int (start:Nat),.int (m:Nat),.lst (fx.map pairD)]=.ok (.lst ((chunks m (runP (λk=>pickV ns (start+k)) (startP m fx)).owner).map rowD)):=by
 show(xecs (Phi prog (k+2)) prog.gls 1000 (Brows 22) [some (false,.scr ns),some (false,.int (start:Nat)),some (false,.int (m:Nat)),some (false,.lst (fx.map pairD)),none,none,none,none,none]).val=_;rw[nV (by omega) hl hf (yA k ns) (by decide)];rfl
theorem yB(k:Nat)(h4:∀r∈L,r.length=4)(h2:∀r∈P,r.length=2)(hL:L.length<=50)(hP:P.length<=50):Phi prog (k+2) 7 [.lst (L.map rowD),.int g,.lst (P.map rowD)]=.ok (shD (numV (joinV L g P).1) (joinV L g P).2):=by
 show(xecs (Phi prog (k+1)) prog.gls 1000 (Bjoined 8 5) [some (false,.lst (L.map rowD)),some (false,.int g),some (false,.lst (P.map rowD)),none,none,none,none]).val=_;rw[pW (λR old new hR hr=>by
  show(xecs (Phi prog k) prog.gls 1000 Brenamed [some (false,.lst (R.map rowD)),some (false,.int old),some (false,.int new)]).val=_;rw[n8 hR hr];rfl) (λR g h4 hL=>p_num k h4 hL) h4 h2 hL hP (by decide)];rfl
theorem uG(k:Nat)(hQ:Q.length<=50):Phi prog (k+1) 6 [.tup (Q.map rowD),.tup (intL ks)]=.ok (.lst ((withoutV Q ks).map rowD)):=by
 show(xecs (Phi prog k) prog.gls 1000 Bwithout [some (false,.tup (Q.map rowD)),some (false,.tup (intL ks))]).val=_;rw[oA (by omega)];rfl
theorem p_at(k:Nat):Phi prog (k+1) 2 [shD Q g,.int x]=if x<0\/(Q.length:Int)<=x then .exc 0 else .ok (rowD (Q.getD x.toNat [])):=by
 show(xecs (Phi prog k) prog.gls 1000 (Bat 0) [some (false,shD Q g),some (false,.int x)]).val=_;exact at_run
theorem kJ(a b:Nat×Nat):eqD (pairD a) (pairD b)=decide (a=b):=by
 obtain⟨a1,a2⟩:=a;obtain⟨b1,b2⟩:=b;have:eqD (pairD (a1,a2)) (pairD (b1,b2))=(((a1:Nat):Int)==(b1:Nat)&&(((a2:Nat):Int)==(b2:Nat)&&true)):=by simp[pairD,eqD,eqDs]
 rw[this,Bool.eq_iff_iff];simp;omega
theorem intL_snoc(r:List Int)(x:Int):intL (r++[x])=intL r++[.int x]:=by simp[intL]
theorem oJ(a b:Nat×Nat):op2 .ne (pairD a) (pairD b)=.ok (.bl (!decide (a=b))):=by
 show(if(pln 9 (pairD a)&&pln 9 (pairD b)&&kin (pairD a) (pairD b))=true then Py.R.ok (D.bl (!eqD (pairD a) (pairD b))) else Py.R.bad)=_;rw[kJ];rfl
theorem oK(a b:Nat×Nat):op2 .eq (pairD a) (pairD b)=.ok (.bl (decide (a=b))):=by
 show(if(pln 9 (pairD a)&&pln 9 (pairD b)&&kin (pairD a) (pairD b))=true then Py.R.ok (D.bl (eqD (pairD a) (pairD b))) else Py.R.bad)=_;rw[kJ];rfl
theorem fT(p:Nat×Nat):op2 .at (pairD p) (.int 0)=.ok (.int (p.1:Nat)):=rfl
theorem fU(p:Nat×Nat):op2 .at (pairD p) (.int 1)=.ok (.int (p.2:Nat)):=rfl
theorem lZ(s:Sheet Q m)(h:okP m p):op2 .at (.tup (Q.map rowD)) (.int (p.1:Nat))=.ok (rowD (Q.getD p.1 [])):=by
 rw[o_atT,kF (by rw[s.len];exact h.1),nR]
theorem qC(s:Sheet Q m)(h:okP m p):op2 .at (rowD (Q.getD p.1 [])) (.int (p.2:Nat))=.ok (.int (lineV Q p)):=by
 have h1:p.1<Q.length:=by rw[s.len];exact h.1
 have:(Q.getD p.1 []).length=4:=by
  rw[show Q.getD p.1 []=Q[p.1] by simp[h1]];exact s.four _ (zS h1)
 rw[rowD,o_atT,n4 (by rw[this];exact h.2),nR];rfl
theorem m4(x:Int):op2 .mod (.int x) (.int 4)=.ok (.int (x%4)):=nQ _ _ (by decide)
theorem opp_int(p:Nat×Nat):D.tup [.int (p.1:Nat),.int (((p.2:Nat):Int)+2)]=D.tup [.int (p.1:Nat),.int (((p.2:Nat):Int)+2)]:=rfl
theorem sB(p:Nat×Nat):D.tup [.int (p.1:Nat),.int ((((p.2:Nat):Int)+2)%4)]=pairD (oppV p):=by
 rw[show((((p.2:Nat):Int)+2)%4)=(((p.2+2)%4:Nat):Int) by omega];rfl
theorem uH(k:Nat)(s:Sheet Q m)(h:okP m p):Phi prog (k+1) 3 [.tup (Q.map rowD),pairD p]=.ok (.int (lineV Q p)):=by
 show(xecs (Phi prog k) prog.gls 1000 fD [some (false,.tup (Q.map rowD)),some (false,pairD p)]).val=_;have r:=lZ s h;have e:=qC s h;generalize D.tup (Q.map rowD)=T at*;generalize rowD (Q.getD p.1 [])=W at*;simp only[fD,xecs,xec,ev,frz,leaks,rdR,rdV,Zc,Zf,Zk,Zl,Zq,yT,fT,fU,r,e];rfl
theorem qD(k:Nat)(p:Nat×Nat):Phi prog (k+1) 4 [pairD p]=.ok (pairD (oppV p)):=by
 show(xecs (Phi prog k) prog.gls 1000 dC [some (false,pairD p)]).val=_;simp only[dC,xecs,xec,ev,evs,frz,leaks,leakss,rdR,rdV,Zc,Zf,Zk,Zq,yT,ZA,fT,fU,m4,sB];rfl
theorem sC(k:Nat)(s:Sheet Q m)(hm:m<=10)(h:okP m p):Phi prog (k+2) 12 [shD Q g,pairD p]=.ok (pairD (mateV Q p)):=by
 have hl:=uH k s h;have he:=p_ends k (g:=g) (line:=lineV Q p) s.four (by rw[s.len];omega);have a0:op2 .at (shD Q g) (.int 0)=.ok (.tup (Q.map rowD)):=rfl;obtain⟨q,e,hne,_,_,hq⟩:=s.pair h;rw[e];show(xecs (Phi prog (k+1)) prog.gls 1000 gK [some (false,shD Q g),some (false,pairD p),none]).val=_;rcases hq with hq|hq
 ·rw[yK (by rw[hq];simp),hq,yQ,yQ,aAO] at he
  have z:decide (p=p)=true:=zT rfl;simp only[gK,xecs,xec,evT,ev,evs,frz,frz1,leaksT,leaks,leakss,rdR,rdV,Za,Zc,isOwn,frsh,Ze,Zf,Zi,Zj,Zk,Zl,Zo,Zp,Zq,yT,yX,yH,Zu,ZJ,a0,hl,he,at2_0,at2_1,oK,z];rfl
 ·rw[yK (by rw[hq];simp),hq,yQ,yQ,aAO] at he
  have z:decide (q=p)=false:=zM hne;simp only[gK,xecs,xec,evT,ev,evs,frz,frz1,leaksT,leaks,leakss,rdR,rdV,Za,Zc,isOwn,frsh,Ze,Zf,Zi,Zj,Zk,Zl,Zo,Zp,Zq,yT,yX,yH,Zu,ZJ,a0,hl,he,at2_0,at2_1,oK,z];rfl
theorem yC(k:Nat)(s:Sheet Q m)(hm:m<=10)(h:okP m p):Phi prog (k+3) 11 [shD Q g,pairD p]=.ok (pairD (onV Q p)):=by
 have h1:=qD (k+1) p;have h2:=sC k (g:=g) s hm (dA h);show(xecs (Phi prog (k+2)) prog.gls 1000 iX [some (false,shD Q g),some (false,pairD p)]).val=_;simp only[iX,xecs,xec,ev,evs,frz,frz1,leaks,leakss,rdR,rdV,Zc,Zf,Zk,Zl,Zo,Zp,Zq,yX,yH,h1,h2];rfl
theorem sD(n:Nat)(I:Nat->Sto->Prop)(j:Nat)(hj:j<n)(h:∀i,i<j->∀δ,I i δ->∃δ',f (.int (i:Nat)) δ=.nx δ'/\I (i+1) δ')(hr:∀δ,I j δ->f (.int (j:Nat)) δ=.rt d)(δ:Sto)(q:I 0 δ):forM f (rangeD 0 n) δ=.rt d:=by
 have gen:∀(xs:List D)(a:Nat) δ,a<=j->I a δ->(∀i,a<=i->i<=j->∃h:i-a<xs.length,xs[i-a]=.int (i:Nat))->forM f xs δ=.rt d:=by
  intro xs
  induction xs with
  |nil=>intro a δ ha _ hx;obtain⟨h,_⟩:=hx j ha (yP _);cases h
  |cons x r ih=>
   intro a δ ha ia hx;obtain⟨_,e⟩:=hx a (yP _) ha;have e:x=.int (a:Nat):=by simpa using e
   rw[Py.forM.eq_2,e];by_cases haj:a=j
   ·subst haj
    rw[hr δ ia]
   ·obtain⟨δ',e',i'⟩:=h a (by omega) δ ia
    rw[e'];refine ih (a+1) δ' (by omega) i' λi h1 h2=>?_;obtain⟨hh,ee⟩:=hx i (by omega) h2;obtain⟨c,hc⟩:∃c,i-a=c+1:=⟨i-a-1,by omega⟩
    refine⟨by simp only[yJ] at hh;omega,?_⟩;simp only[hc,List.getElem_cons_succ] at ee;simp only[show i-(a+1)=c by omega];exact ee
 refine gen (rangeD 0 n) 0 δ (Nat.zero_le _) q λi _ hi=>⟨by rw[c9];omega,?_⟩
 simp[rangeD]
theorem p_lmate(k:Nat)(s:Sheet Q m)(hm:m<=10)(h:okP m p):Phi prog (k+1) 26 [.tup (Q.map rowD),pairD p]=.ok (pairD (mateV Q p)):=by
 show(xecs (Phi prog k) prog.gls 1000 dD [some (false,.tup (Q.map rowD)),some (false,pairD p),none,none,none]).val=_;have cell:∀a b:Nat,a<m->b<4->op2 .at (.tup (Q.map rowD)) (.int (a:Nat))=.ok (rowD (Q.getD a []))/\op2 .at (rowD (Q.getD a [])) (.int (b:Nat))=.ok (.int (lineV Q (a,b))):=λa b ha hb=>⟨lZ s (p:=(a,b)) ⟨ha,hb⟩,qC s (p:=(a,b)) ⟨ha,hb⟩⟩
 have hlen:op1 .len (.tup (Q.map rowD))=.ok (.int (m:Nat)):=by rw[pP,yI,s.len]
 have r0:=lZ s h;have r1:=qC s h;have mo:=s.mate_ok h;have ml:=s.mate_line h;have mn:=s.mate_ne h;have only:=λa b (ha:a<m)(hb:b<4)=>s.mate_only (q:=(a,b)) h ⟨ha,hb⟩;generalize mateV Q p=q at*;generalize D.tup (Q.map rowD)=T at*;have e1:xec (Phi prog k) prog.gls 1000 (.asg 2 (.op2 .at (.op2 .at (.var 0) (.op2 .at (.var 1) (.cst (.int 0)))) (.op2 .at (.var 1) (.cst (.int 1))))) [some (false,T),some (false,pairD p),none,none,none]=.nx [some (false,T),some (false,pairD p),some (false,.int (lineV Q p)),none,none]:=by
  generalize rowD (Q.getD p.1 [])=W at*;simp only[xec,ev,frz,leaks,rdR,rdV,Zc,isOwn,frsh,Zf,Zi,Zj,Zk,Zl,Zq,yT,Zu,fT,fU,r0,r1]
 have tup2:∀a b:Nat,D.tup [.int (a:Nat),.int (b:Nat)]=pairD (a,b):=λ_ _=>rfl;have miss:∀a b:Nat,a<m->b<4->(a,b)≠q->∀c4,loopF (Phi prog k) prog.gls 1000 [4] [(.ite (.and (.leaf (.op2 .eq (.op2 .at (.op2 .at (.var 0) (.var 3)) (.var 4)) (.var 2))) (.leaf (.op2 .ne (.tup [(.var 3),(.var 4)]) (.var 1)))) [(.ret (.tup [(.var 3),(.var 4)]))] [])] (.int (b:Nat)) [some (false,T),some (false,pairD p),some (false,.int (lineV Q p)),some (false,.int (a:Nat)),c4]=.nx [some (false,T),some (false,pairD p),some (false,.int (lineV Q p)),some (false,.int (a:Nat)),some (false,.int (b:Nat))]:=by
  intro a b ha hb hq c4;obtain⟨ca,cb⟩:=cell a b ha hb;generalize rowD (Q.getD a [])=W at*;by_cases hl:lineV Q (a,b)=lineV Q p
  ·have hp:(a,b)=p:=(only a b ha hb hl).resolve_right hq
   have z1:(lineV Q (a,b)==lineV Q p)=true:=by simpa using hl
   have z2:decide ((a,b)=p)=true:=zT hp;simp only[loopF,xecs,xec,evT,ev,evs,frz,frz1,leaksT,leaks,leakss,rdR,rdV,Za,Zc,Py.sets,spread,Zf,Zi,Zj,Zk,Zl,Zo,Zp,Zq,yT,yX,yH,Zv,ZG,ca,cb,z1,tup2,oJ,z2,yJ,y7,zN]
  ·have z1:(lineV Q (a,b)==lineV Q p)=false:=by simpa using hl
   simp only[loopF,xecs,xec,evT,ev,evs,frz,frz1,leaksT,leaks,leakss,rdR,rdV,Za,Zc,Py.sets,spread,Zf,Zi,Zj,Zk,Zl,Zo,Zp,Zq,yT,yX,yH,ZG,ca,cb,z1,yJ,y7,zN]
 have hit:∀c4,loopF (Phi prog k) prog.gls 1000 [4] [(.ite (.and (.leaf (.op2 .eq (.op2 .at (.op2 .at (.var 0) (.var 3)) (.var 4)) (.var 2))) (.leaf (.op2 .ne (.tup [(.var 3),(.var 4)]) (.var 1)))) [(.ret (.tup [(.var 3),(.var 4)]))] [])] (.int (q.2:Nat)) [some (false,T),some (false,pairD p),some (false,.int (lineV Q p)),some (false,.int (q.1:Nat)),c4]=.rt (pairD q):=by
  intro c4;obtain⟨ca,cb⟩:=cell q.1 q.2 mo.1 mo.2;have z1:(lineV Q (q.1,q.2)==lineV Q p)=true:=by simpa using ml
  have z2:decide ((q.1,q.2)=p)=false:=zM mn;generalize rowD (Q.getD q.1 [])=W at*;simp only[loopF,xecs,xec,evT,ev,evs,frz,frz1,leaksT,leaks,leakss,rdR,rdV,Za,Zc,Py.sets,spread,Zf,Zi,Zj,Zk,Zl,Zo,Zp,Zq,yT,yX,yH,Zw,ZG,ca,cb,z1,tup2,oJ,z2,yJ,y7,zN]
 have e2:xec (Phi prog k) prog.gls 1000 (.loop .rng [(.op1 .len (.var 0))] [3] [(.loop .rng [(.cst (.int 4))] [4] [(.ite (.and (.leaf (.op2 .eq (.op2 .at (.op2 .at (.var 0) (.var 3)) (.var 4)) (.var 2))) (.leaf (.op2 .ne (.tup [(.var 3),(.var 4)]) (.var 1)))) [(.ret (.tup [(.var 3),(.var 4)]))] [])])]) [some (false,T),some (false,pairD p),some (false,.int (lineV Q p)),none,none]=.rt (pairD q):=by
  rw[eB (xs:=rangeD 0 m) (by simp only[ev,evs,frz,leaks,leakss,rdR,rdV,Zf,Zk,Zq,yT,hlen];exact aM (by omega))];refine sD m (λ_ δ=>∃c3 c4,δ=[some (false,T),some (false,pairD p),some (false,.int (lineV Q p)),c3,c4]) q.1 mo.1 ?_ ?_ _ ⟨none,none,by rfl⟩
  ·rintro a ha δ ⟨c3,c4,rfl⟩
   obtain⟨δ',e,c,rfl⟩:=bL (Φ:=Phi prog k) (G:=prog.gls) (n:=1000) (its:=[(.cst (.int 4))]) (tg:=[4]) (body:=[(.ite (.and (.leaf (.op2 .eq (.op2 .at (.op2 .at (.var 0) (.var 3)) (.var 4)) (.var 2))) (.leaf (.op2 .ne (.tup [(.var 3),(.var 4)]) (.var 1)))) [(.ret (.tup [(.var 3),(.var 4)]))] [])]) (δ:=[some (false,T),some (false,pairD p),some (false,.int (lineV Q p)),some (false,.int (a:Nat)),c4]) (m:=4) (by simp only[ev,evs,Zf];exact aM (by decide))
    (λ_ δ=>∃c,δ=[some (false,T),some (false,pairD p),some (false,.int (lineV Q p)),some (false,.int (a:Nat)),c]) ⟨c4,rfl⟩ (by
     rintro b hb δ ⟨c,rfl⟩;exact⟨_,miss a b (by have:=mo.1;omega) hb (λe=>by have:=congrArg Prod.fst e;simp only at this;omega) c,_,rfl⟩)
   refine⟨_,?_,some (false,.int (a:Nat)),c,rfl⟩;simp only[loopF,spread,yJ,y7,zN,yT,Py.sets,aAN,aAJ];rw[aD e];rfl
  ·rintro δ ⟨c3,c4,rfl⟩
   have:xec (Phi prog k) prog.gls 1000 (.loop .rng [(.cst (.int 4))] [4] [(.ite (.and (.leaf (.op2 .eq (.op2 .at (.op2 .at (.var 0) (.var 3)) (.var 4)) (.var 2))) (.leaf (.op2 .ne (.tup [(.var 3),(.var 4)]) (.var 1)))) [(.ret (.tup [(.var 3),(.var 4)]))] [])]) [some (false,T),some (false,pairD p),some (false,.int (lineV Q p)),some (false,.int (q.1:Nat)),c4]=.rt (pairD q):=by
    rw[eB (xs:=rangeD 0 4) (by simp only[ev,evs,Zf];exact aM (by decide))];refine sD 4 (λ_ δ=>∃c,δ=[some (false,T),some (false,pairD p),some (false,.int (lineV Q p)),some (false,.int (q.1:Nat)),c]) q.2 mo.2 ?_ ?_ _ ⟨c4,by rfl⟩
    ·rintro b hb δ ⟨c,rfl⟩
     exact⟨_,miss q.1 b mo.1 (by have:=mo.2;omega) (λe=>by have:=congrArg Prod.snd e;simp only at this;omega) c,_,rfl⟩
    ·rintro δ ⟨c,rfl⟩
     exact hit c
   simp only[loopF,spread,yJ,y7,zN,yT,Py.sets,aAN,aAJ];exact bF this
 unfold dD;rw[aD e1,bF e2];rfl
theorem ret_ex(s:Sheet Q m)(h:okP m a):∃z:Nat×(Nat×Nat),z.1<4*m/\Ret Q m a z.2 z.1:=by
 obtain⟨t,c,h1,h2⟩:=s.ret h;exact⟨(t,c),h1,h2⟩
open Classical in
noncomputable def rtZ(Q:List (List Int))(m:Nat)(a:Nat×Nat):Nat×(Nat×Nat):=if h:∃z:Nat×(Nat×Nat),z.1<4*m/\Ret Q m a z.2 z.1 then h.choose else(0,a)
theorem sE(s:Sheet Q m)(h:okP m a):(rtZ Q m a).1<4*m/\Ret Q m a (rtZ Q m a).2 (rtZ Q m a).1:=by
 have hx:=ret_ex s h;unfold rtZ;rw[dif_pos hx];exact hx.choose_spec
noncomputable def tuV(Q:List (List Int))(m i:Nat):Int:=turnV (rtZ Q m (i,2)).2.2
theorem yD(h:e<4):op2 .at (.tup [.int 0,.int (-1),.int 0,.int 1]) (.int (e:Nat))=.ok (.int (turnV e)):=by
 have:e=0\/e=1\/e=2\/e=3:=by omega
 rcases this with rfl|rfl|rfl|rfl<;>rfl
theorem sF(i:Nat):D.tup [.int (i:Nat),.int 2]=pairD (i,2):=rfl
theorem yE(h:i<m):okP m (i,2):=⟨h,show 2<4 by decide⟩
theorem p_turn(k:Nat)(s:Sheet Q m)(hm:m<=10)(hi:i<m):Phi prog (k+4) 10 [shD Q g,.int (i:Nat)]=.ok (.int (tuV Q m i)):=by
 have ok:=yE hi;obtain⟨ht,r⟩:=sE s ok;have al:Phi prog (k+3) 12 [shD Q g,.tup [.int (i:Nat),.int 2]]=.ok (pairD (retW Q (i,2) 0)):=by
  have z:=sC (k+1) (g:=g) s hm ok;rw[s.ret_zero ok,sF];exact z
 have on:=λj=>yC k (g:=g) s hm (s.ret_ok ok j);have gl:ofO prog.gls[1]?=.ok (.tup [.int 0,.int (-1),.int 0,.int 1]):=rfl;have h4:(rtZ Q m (i,2)).2.2<4:=by rw[←r.hit];exact(s.ret_ok ok _).2
 have hat:=yD h4;unfold tuV;generalize (rtZ Q m (i,2)).2=w at*;generalize (rtZ Q m (i,2)).1=t at*;show(xecs (Phi prog (k+3)) prog.gls 1000 p7 [some (false,shD Q g),some (false,.int (i:Nat)),none]).val=_;have e1:xec (Phi prog (k+3)) prog.gls 1000 (.asg 2 (.call 12 [(.var 0),(.tup [(.var 1),(.cst (.int 2))])])) [some (false,shD Q g),some (false,.int (i:Nat)),none]=.nx [some (false,shD Q g),some (false,.int (i:Nat)),some (false,pairD (retW Q (i,2) 0))]:=by
  simp only[xec,ev,evs,frz,frz1,leaks,leakss,rdR,rdV,Zc,isOwn,frsh,Zf,Zi,Zj,Zk,Zl,Zo,Zp,Zq,yX,yH,Zu,al]
 have e2:xec (Phi prog (k+3)) prog.gls 1000 (.whl (.leaf (.op2 .ne (.op2 .at (.var 2) (.cst (.int 0))) (.var 1))) [(.asg 2 (.call 11 [(.var 0),(.var 2)]))]) [some (false,shD Q g),some (false,.int (i:Nat)),some (false,pairD (retW Q (i,2) 0))]=.nx [some (false,shD Q g),some (false,.int (i:Nat)),some (false,pairD (retW Q (i,2) t))]:=by
  rw[xec];refine d9 (c:=evT (Phi prog (k+3)) prog.gls (.leaf (.op2 .ne (.op2 .at (.var 2) (.cst (.int 0))) (.var 1)))) (fz:=frz (leaksT (.leaf (.op2 .ne (.op2 .at (.var 2) (.cst (.int 0))) (.var 1))))) (b:=xecs (Phi prog (k+3)) prog.gls 1000 [(.asg 2 (.call 11 [(.var 0),(.var 2)]))]) t 1000 (λj=>[some (false,shD Q g),some (false,.int (i:Nat)),some (false,pairD (retW Q (i,2) j))]) (by omega) (λj hj=>?_) ?_
  ·have z:((((retW Q (i,2) j).1:Nat):Int)==(i:Nat))=false:=by
    have:(retW Q (i,2) j).1≠i:=r.first j hj;simp;omega
   have o1:Phi prog (k+3) 11 [shD Q g,pairD (retW Q (i,2) j)]=.ok (pairD (retW Q (i,2) (j+1))):=on j;exact⟨by simp only[evT,ev,frz,leaksT,leaks,rdR,rdV,Za,Zf,Zk,Zl,Zq,yT,Zw,ZH,fT,z],by simp only[xecs,xec,ev,evs,frz,frz1,leaksT,leaks,leakss,rdR,rdV,Zc,isOwn,frsh,Zf,Zi,Zj,Zk,Zl,Zo,Zp,Zq,yT,yX,yH,Zu,o1]⟩
  ·have z:((((retW Q (i,2) t).1:Nat):Int)==(i:Nat))=true:=by
    have:(retW Q (i,2) t).1=i:=by rw[r.hit];exact r.home
    simp;omega
   simp only[evT,ev,frz,leaksT,leaks,rdR,rdV,Za,Zf,Zk,Zl,Zq,yT,Zv,ZH,fT,z]
 unfold p7;rw[aD e1,aD e2,r.hit];simp only[xecs,xec,ev,frz,leaks,rdR,rdV,Zf,Zk,Zl,Zq,yT,ZJ,gl,fU];have:op2 .at (.tup [.int 0,.int (-1),.int 0,.int 1]) (.int (w.2:Nat))=ofO (atD [D.int 0,.int (-1),.int 0,.int 1] (w.2:Nat)):=rfl;rw[this] at hat;rw[hat];rfl
theorem i7:∀xs:List Int,sumI (intL xs)=some xs.sum
 |[]=>rfl
 |x::r=>by
  show(sumI (intL r)).map (x+·)=_;rw[i7 r];simp
theorem qE(e:Nat): -1<=turnV e/\turnV e<=1:=by
 unfold turnV;split
 ·omega
 ·split<;>omega
noncomputable def twV(Q:List (List Int))(m:Nat):Int:=((List.range m).map (tuV Q m)).sum
theorem p_twist(k:Nat)(s:Sheet Q m)(hm:m<=10):Phi prog (k+5) 9 [shD Q g]=.ok (.int (twV Q m)):=by
 show(xecs (Phi prog (k+4)) prog.gls 1000 lU [some (false,shD Q g)]).val=_;have a0:op2 .at (shD Q g) (.int 0)=.ok (.tup (Q.map rowD)):=rfl;have hl:((Q.map rowD).length:Int)=(m:Nat):=by rw[yI,s.len]
 have e1:ev (Phi prog (k+4)) prog.gls true (.comp .rng [(.op1 .len (.op2 .at (.var 0) (.cst (.int 0))))] [0] 1 none (.call 10 [(.var 1),(.var 0)])) [some (false,shD Q g)]=.ok (.lst ((List.range m).map λi=>D.int (tuV Q m i))):=by
  refine eD (a:=λi:Nat=>D.int (i:Nat)) (λi=>D.int (tuV Q m i)) ?_ λi hi=>?_
  ·simp only[ev,evs,rdR,rdV,Zf,Zk,yT,ZM,a0]
   rw[bT hl (by omega),cB];rfl
  ·have:=p_turn k (g:=g) s hm (List.mem_range.mp hi)
   simp only[ev,evs,rdR,rdV,capOf,Zf,Zk,Zl,Zm,Zn,yX,yH,Zx,this]
 have e2:op1 .sum (.lst ((List.range m).map λi=>D.int (tuV Q m i)))=.ok (.int (twV Q m)):=by
  have ee:((List.range m).map λi=>D.int (tuV Q m i))=intL ((List.range m).map (tuV Q m)):=by simp[intL]
  rw[ee];show(if(intL ((List.range m).map (tuV Q m))).length<=1000/\(intL ((List.range m).map (tuV Q m))).all smallI=true then ofO ((sumI (intL ((List.range m).map (tuV Q m)))).map .int) else .bad)=_;rw[yM ⟨by simp[intL];omega,by
   rw[List.all_eq_true];intro d hd;simp only[intL,List.mem_map] at hd;obtain⟨x,⟨i,_,rfl⟩,rfl⟩:=hd;have:=qE (rtZ Q m (i,2)).2.2;show decide (-1000000<=turnV _/\turnV _<=1000000)=true;exact zT (by omega)⟩,i7]
  rfl
 have e3:ev (Phi prog (k+4)) prog.gls false (.op1 .sum (.comp .rng [(.op1 .len (.op2 .at (.var 0) (.cst (.int 0))))] [0] 1 none (.call 10 [(.var 1),(.var 0)]))) [some (false,shD Q g)]=.ok (.int (twV Q m)):=by
  rw[ev,e1,aS,e2]
 unfold lU;rw[xecs,cJ (v:=.int (twV Q m)) e3];rfl
theorem yF(k:Nat)(s:Sheet Q m)(hm:m<=10):Phi prog (k+2) 27 [.tup (Q.map rowD)]=.ok (.int (twV Q m)):=by
 show(xecs (Phi prog (k+1)) prog.gls 1000 cE [some (false,.tup (Q.map rowD)),none,none,none]).val=_;have hlen:op1 .len (.tup (Q.map rowD))=.ok (.int (m:Nat)):=by rw[pP,yI,s.len]
 have lm:=λ(p:Nat×Nat)(h:okP m p)=>p_lmate k s hm h;generalize D.tup (Q.map rowD)=T at*;have e1:xec (Phi prog (k+1)) prog.gls 1000 (.asg 1 (.cst (.int 0))) [some (false,T),none,none,none]=.nx [some (false,T),some (false,.int 0),none,none]:=by
  simp only[xec,ev,frz,leaks,Zc,isOwn,frsh,Zi,Zj,Zu]
 have step:∀i,i<m->∀δ,(∃c2 c3,δ=[some (false,T),some (false,.int ((List.range i).map (tuV Q m)).sum),c2,c3])->∃δ',loopF (Phi prog (k+1)) prog.gls 1000 [2] [(.asg 3 (.call 26 [(.var 0),(.tup [(.var 2),(.cst (.int 2))])])),(.whl (.leaf (.op2 .ne (.op2 .at (.var 3) (.cst (.int 0))) (.var 2))) [(.asg 3 (.call 26 [(.var 0),(.tup [(.op2 .at (.var 3) (.cst (.int 0))),(.op2 .mod (.op2 .add (.op2 .at (.var 3) (.cst (.int 1))) (.cst (.int 2))) (.cst (.int 4)))])]))]),(.ite (.leaf (.op2 .eq (.op2 .at (.var 3) (.cst (.int 1))) (.cst (.int 3)))) [(.asg 1 (.op2 .add (.var 1) (.cst (.int 1))))] []),(.ite (.leaf (.op2 .eq (.op2 .at (.var 3) (.cst (.int 1))) (.cst (.int 1)))) [(.asg 1 (.op2 .sub (.var 1) (.cst (.int 1))))] [])] (.int (i:Nat)) δ=.nx δ'/\∃c2 c3,δ'=[some (false,T),some (false,.int ((List.range (i+1)).map (tuV Q m)).sum),c2,c3]:=by
  rintro i hi δ ⟨c2,c3,rfl⟩;have ok:=yE hi;obtain⟨ht,r⟩:=sE s ok;have al:Phi prog (k+1) 26 [T,.tup [.int (i:Nat),.int 2]]=.ok (pairD (retW Q (i,2) 0)):=by
   have z:=lm _ ok;rw[s.ret_zero ok,sF];exact z
  have on:∀j,Phi prog (k+1) 26 [T,pairD (oppV (retW Q (i,2) j))]=.ok (pairD (retW Q (i,2) (j+1))):=λj=>lm _ (dA (s.ret_ok ok j));have es:((List.range (i+1)).map (tuV Q m)).sum=((List.range i).map (tuV Q m)).sum+turnV (rtZ Q m (i,2)).2.2:=by
   rw[aAS,zW,List.sum_append];simp[tuV]
  rw[es];generalize ((List.range i).map (tuV Q m)).sum=F at*;generalize (rtZ Q m (i,2)).2=w at*;generalize (rtZ Q m (i,2)).1=t at*;have f1:xec (Phi prog (k+1)) prog.gls 1000 (.asg 3 (.call 26 [(.var 0),(.tup [(.var 2),(.cst (.int 2))])])) [some (false,T),some (false,.int F),some (false,.int (i:Nat)),c3]=.nx [some (false,T),some (false,.int F),some (false,.int (i:Nat)),some (false,pairD (retW Q (i,2) 0))]:=by
   simp only[xec,ev,evs,frz,frz1,leaks,leakss,rdR,rdV,Zc,isOwn,frsh,Zf,Zi,Zj,Zk,Zl,Zo,Zp,Zq,yX,yH,Zu,al]
  have f2:xec (Phi prog (k+1)) prog.gls 1000 (.whl (.leaf (.op2 .ne (.op2 .at (.var 3) (.cst (.int 0))) (.var 2))) [(.asg 3 (.call 26 [(.var 0),(.tup [(.op2 .at (.var 3) (.cst (.int 0))),(.op2 .mod (.op2 .add (.op2 .at (.var 3) (.cst (.int 1))) (.cst (.int 2))) (.cst (.int 4)))])]))]) [some (false,T),some (false,.int F),some (false,.int (i:Nat)),some (false,pairD (retW Q (i,2) 0))]=.nx [some (false,T),some (false,.int F),some (false,.int (i:Nat)),some (false,pairD (retW Q (i,2) t))]:=by
   rw[xec];refine d9 (c:=evT (Phi prog (k+1)) prog.gls (.leaf (.op2 .ne (.op2 .at (.var 3) (.cst (.int 0))) (.var 2)))) (fz:=frz (leaksT (.leaf (.op2 .ne (.op2 .at (.var 3) (.cst (.int 0))) (.var 2))))) (b:=xecs (Phi prog (k+1)) prog.gls 1000 [(.asg 3 (.call 26 [(.var 0),(.tup [(.op2 .at (.var 3) (.cst (.int 0))),(.op2 .mod (.op2 .add (.op2 .at (.var 3) (.cst (.int 1))) (.cst (.int 2))) (.cst (.int 4)))])]))]) t 1000 (λj=>[some (false,T),some (false,.int F),some (false,.int (i:Nat)),some (false,pairD (retW Q (i,2) j))]) (by omega) (λj hj=>?_) ?_
   ·have z:((((retW Q (i,2) j).1:Nat):Int)==(i:Nat))=false:=by
     have:(retW Q (i,2) j).1≠i:=r.first j hj;simp;omega
    have o1:=on j;exact⟨by simp only[evT,ev,frz,leaksT,leaks,rdR,rdV,Za,Zf,Zk,Zl,Zq,yT,Zw,ZH,fT,z],by simp only[xecs,xec,ev,evs,frz,frz1,leaksT,leaks,leakss,rdR,rdV,Zc,isOwn,frsh,Zf,Zi,Zj,Zk,Zl,Zq,yT,yX,yH,Zu,ZA,fT,fU,m4,sB,o1]⟩
   ·have z:((((retW Q (i,2) t).1:Nat):Int)==(i:Nat))=true:=by
     have:(retW Q (i,2) t).1=i:=by rw[r.hit];exact r.home
     simp;omega
    simp only[evT,ev,frz,leaksT,leaks,rdR,rdV,Za,Zf,Zk,Zl,Zq,yT,Zv,ZH,fT,z]
  have f34:xecs (Phi prog (k+1)) prog.gls 1000 [(.ite (.leaf (.op2 .eq (.op2 .at (.var 3) (.cst (.int 1))) (.cst (.int 3)))) [(.asg 1 (.op2 .add (.var 1) (.cst (.int 1))))] []),(.ite (.leaf (.op2 .eq (.op2 .at (.var 3) (.cst (.int 1))) (.cst (.int 1)))) [(.asg 1 (.op2 .sub (.var 1) (.cst (.int 1))))] [])] [some (false,T),some (false,.int F),some (false,.int (i:Nat)),some (false,pairD w)]=.nx [some (false,T),some (false,.int (F+turnV w.2)),some (false,.int (i:Nat)),some (false,pairD w)]:=by
   unfold turnV;by_cases h3:w.2=3
   ·have z1:(((w.2:Nat):Int)==3)=true:=by simp;omega
    have z2:(((w.2:Nat):Int)==1)=false:=by simp;omega
    rw[yM h3];simp only[xecs,xec,evT,ev,frz,leaksT,leaks,rdR,rdV,Za,Zc,isOwn,frsh,Zf,Zi,Zj,Zk,Zl,Zq,yT,yX,yH,Zt,Zu,ZA,ZB,ZG,fU,z1,z2]
   ·have z1:(((w.2:Nat):Int)==3)=false:=by simp;omega
    rw[yK h3];by_cases h1:w.2=1
    ·have z2:(((w.2:Nat):Int)==1)=true:=by simp;omega
     rw[yM h1,show F+ -1=F-1 by omega];simp only[xecs,xec,evT,ev,frz,leaksT,leaks,rdR,rdV,Za,Zc,isOwn,frsh,Zf,Zi,Zj,Zk,Zl,Zq,yT,yX,yH,Zt,Zu,ZA,ZB,ZG,fU,z1,z2]
    ·have z2:(((w.2:Nat):Int)==1)=false:=by simp;omega
     rw[yK h1,Int.add_zero];simp only[xecs,xec,evT,ev,frz,leaksT,leaks,rdR,rdV,Za,Zc,isOwn,frsh,Zf,Zi,Zj,Zk,Zl,Zq,yT,yX,yH,Zt,Zu,ZA,ZB,ZG,fU,z1,z2]
  refine⟨_,?_,some (false,.int (i:Nat)),some (false,pairD w),rfl⟩;simp only[loopF,spread,yJ,y7,zN,yT,Py.sets,aAN,aAJ];rw[aD f1,aD f2,r.hit];exact f34
 obtain⟨δ',e2,c2,c3,rfl⟩:=bL (Φ:=Phi prog (k+1)) (G:=prog.gls) (n:=1000) (its:=[(.op1 .len (.var 0))]) (tg:=[2]) (body:=[(.asg 3 (.call 26 [(.var 0),(.tup [(.var 2),(.cst (.int 2))])])),(.whl (.leaf (.op2 .ne (.op2 .at (.var 3) (.cst (.int 0))) (.var 2))) [(.asg 3 (.call 26 [(.var 0),(.tup [(.op2 .at (.var 3) (.cst (.int 0))),(.op2 .mod (.op2 .add (.op2 .at (.var 3) (.cst (.int 1))) (.cst (.int 2))) (.cst (.int 4)))])]))]),(.ite (.leaf (.op2 .eq (.op2 .at (.var 3) (.cst (.int 1))) (.cst (.int 3)))) [(.asg 1 (.op2 .add (.var 1) (.cst (.int 1))))] []),(.ite (.leaf (.op2 .eq (.op2 .at (.var 3) (.cst (.int 1))) (.cst (.int 1)))) [(.asg 1 (.op2 .sub (.var 1) (.cst (.int 1))))] [])]) (δ:=[some (false,T),some (false,.int 0),none,none]) (m:=m) (by simp only[ev,evs,frz,leaks,leakss,rdR,rdV,Zf,Zk,Zq,yT,hlen];exact aM (by omega))
  (λi δ=>∃c2 c3,δ=[some (false,T),some (false,.int ((List.range i).map (tuV Q m)).sum),c2,c3]) ⟨none,none,rfl⟩ step
 unfold cE;rw[aD e1,aD e2];simp only[xecs,xec,ev,frz,frz1,leaks,rdR,rdV,Zc,Zk,Zl,yX,yH];rfl
theorem sG(k:Nat)(h4:∀r∈Q,r.length=4)(hQ:Q.length<=50)(hn:Q≠[])(hw:w=0\/w=1):Phi prog (k+3) 1 [shD Q g,.int 0,.int w]=.ok (toSheet (spV w (Q,g))):=by
 obtain⟨r,R,rfl⟩:=List.exists_cons_of_ne_nil hn;have ha:=p_at (k+1) (Q:=r::R) (g:=g) (x:=0);rw[yK (by simp only[yJ];omega)] at ha;have wo:withoutV (r::R) [0]=R:=n9 (k:=0) (by simp);have hw':=uG (k+1) (ks:=[0]) hQ;rw[wo] at hw';obtain⟨q1,q2⟩:=oB r w;have hj:=yB k (g:=g) (λq hq=>h4 q (yR _ hq)) q2 (by simp only[yJ] at hQ;omega) (by omega);have e2:ev (Phi prog (k+2)) prog.gls false (.comp .seq [(.op2 .at (.glob 0) (.var 2))] [3] 2 none (.tup [(.op2 .at (.var 2) (.var 0)),(.op2 .at (.var 2) (.var 1))])) [some (false,shD (r::R) g),some (false,.int 0),some (false,.int w),some (false,rowD r),none]=.ok (.lst ((pairsV r w).map rowD)):=by
  obtain⟨a,b,c,d,rfl⟩:=row4 (h4 r (by simp));rcases hw with rfl|rfl<;>rfl
 show(xecs (Phi prog (k+2)) prog.gls 1000 rZ [some (false,shD (r::R) g),some (false,.int 0),some (false,.int w),none,none]).val=_;refine cD (aL rfl ha) (cD (aL rfl e2) ?_);have a0:op2 .at (shD (r::R) g) (.int 0)=.ok (.tup ((r::R).map rowD)):=rfl;have a1:op2 .at (shD (r::R) g) (.int 1)=.ok (.int g):=rfl;have hw2:Phi prog (k+2) 6 [.tup ((r::R).map rowD),.tup [.int 0]]=.ok (.lst (R.map rowD)):=hw';generalize D.tup ((r::R).map rowD)=T at a0 hw2;simp only[xecs,xec,ev,evs,frz,frz1,leaks,leakss,rdR,rdV,Zc,isOwn,frsh,Zf,Zi,Zj,Zk,Zl,Zo,Zp,Zq,yT,yX,yH,Zr,Zu,a0,a1,hw2,hj];rfl
theorem fE:∀n,(waysL n).length=2^n
 |0=>rfl
 |n+1=>by rw[waysL,yY,yI,yI,fE n,Nat.pow_succ];omega
theorem p_ways(k:Nat)(hm:m<=9):Phi prog (k+1) 29 [.int (m:Nat)]=.ok (.lst ((waysL m).map lstI)):=by
 have c:∀i,i<m->(waysL i).length<=256:=λi hi=>by rw[fE];exact Nat.pow_le_pow_right (by decide) (by omega:i<=8)
 show(xecs (Phi prog k) prog.gls 1000 i6 [some (false,.int (m:Nat)),none,none]).val=_;refine cD rfl (pY (m:=m) (aM (by omega)) (λi δ=>∃c,δ=[some (false,.int (m:Nat)),some (true,.lst ((waysL i).map lstI)),c]) ⟨_,rfl⟩ ?_ ?_)
 ·rintro i hi δ ⟨c2,rfl⟩
  have e:∀x:Int,ev (Phi prog k) prog.gls true (.comp .seq [(.var 1)] [] 1 none (.op2 .add (.var 0) (.lst [(.cst (.int x))]))) [some (false,.int (m:Nat)),some (true,.lst ((waysL i).map lstI)),some (false,.int (i:Nat))]=.ok (.lst (((waysL i).map (· ++[x])).map lstI)):=λx=>by
   rw[zY];refine eD (a:=lstI) (lstI∘(· ++[x])) (aT (by rw[yI];have:=c i hi;omega)) λw hw=>?_;have:=g6 _ _ hw;refine(lR (w.map .int) [.int x] (by simp only[yI,yJ,y7];omega)).trans ?_;simp[lstI]
  refine⟨_,aD (aL (v:=.lst ((waysL (i+1)).map lstI)) rfl (aP (e 0) (e 1) ?_)),_,rfl⟩;rw[lR _ _ (by simp only[yI];have:=c i hi;omega),←zW];rfl
 ·rintro δ ⟨c2,rfl⟩
  rfl
theorem gL:∀l:List Int,(nbr l).length=l.length-1
 |[]=>rfl
 |[_]=>rfl
 |x::y::r=>by simp[nbr,gL (y::r)]
theorem oM:∀(l:List Int)(j:Nat),j+1<l.length->(nbr l).take (j+1)=(nbr l).take j++[l.getD j 0+l.getD (j+1) 0]
 |x::y::r,0,_=>by simp[nbr]
 |x::y::r,j+1,h=>by
  have:=oM (y::r) j (by simpa using h);simp only[nbr,List.take_succ_cons,this,List.cons_append];rfl
 |[],j,h=>by simp at h
 |[_],j,h=>by simp at h
theorem l0(h:i<l.length):op2 .at (.lst (intL l)) (.int (i:Nat))=.ok (.int (l.getD i 0)):=by
 rw[o_atL,at_nat (by simpa[intL] using h)];simp[intL,ofO,h]
theorem uI(k:Nat)(hn:n<=900):Phi prog (k+1) 30 [.int (n:Nat)]=.ok (.lst (intL (chs n))):=by
 show(xecs (Phi prog k) prog.gls 1000 cO [some (false,.int (n:Nat)),none,none,none,none]).val=_;refine cD rfl (pY (m:=n) (aM (by omega)) (λi δ=>∃c2 c3 c4,δ=[some (false,.int (n:Nat)),some (true,.lst (intL (chs i))),c2,c3,c4]) ⟨_,_,_,rfl⟩ ?_ ?_)
 ·rintro i hi δ ⟨c2,c3,c4,rfl⟩
  have cl:=bE i;obtain⟨δ',e,c,rfl⟩:=bL (Φ:=Phi prog k) (G:=prog.gls) (n:=1000) (its:=[(.op2 .sub (.op1 .len (.var 1)) (.cst (.int 1)))]) (tg:=[4]) (body:=[(.app 3 (.op2 .add (.op2 .at (.var 1) (.var 4)) (.op2 .at (.var 1) (.op2 .add (.var 4) (.cst (.int 1))))))]) (δ:=[some (false,.int (n:Nat)),some (true,.lst (intL (chs i))),some (false,.int (i:Nat)),some (true,.lst [.int 1]),c4]) (m:=i)
   (bT (by show(((intL (chs i)).length:Nat):Int)-1=_;simp only[intL,yI];omega) (by omega)) (λj δ=>∃c,δ=[some (false,.int (n:Nat)),some (true,.lst (intL (chs i))),some (false,.int (i:Nat)),some (true,.lst (intL ([1]++(nbr (chs i)).take j))),c]) ⟨c4,rfl⟩ (by
    rintro j hj δ ⟨c,rfl⟩;have h1:=l0 (l:=chs i) (i:=j) (by omega);have h2:=l0 (l:=chs i) (i:=j+1) (by omega);have nl:=gL (chs i);have ht:=oM (chs i) j (by omega);refine⟨_,aD (lG (v:=.int ((chs i).getD j 0+(chs i).getD (j+1) 0)) rfl ?_ rfl ?_),some (false,.int (j:Nat)),?_⟩
    ·simp only[ev,rdR,rdV,Py.sets,Zf,Zi,Zj,Zk,Zl,Zo,Zp,yT,ZA,ZI,h1]
     rw[show((j:Nat):Int)+1=((j+1:Nat):Int) by omega,←ZI,h2];rfl
    ·refine zH (m:=5000) ?_ (by decide)
     simp only[intL,yI,yY,yJ,y7,zO];omega
    ·show[_,_,_,some (true,D.lst (intL ([1]++(nbr (chs i)).take j)++[_])),_]=_
     rw[ht];simp[intL])
  refine⟨_,lf1 (aN rfl (aN e (aN (aL (v:=.lst (intL (chs (i+1)))) rfl ?_) rfl))),_,_,_,rfl⟩;rw[zX (by rw[gL];omega),wB];refine(lR _ [.int 1] (by simp only[intL,yI,yY,yJ,y7,gL];omega)).trans ?_;simp[intL]
 ·rintro δ ⟨c2,c3,c4,rfl⟩
  rfl
theorem p_rings(k:Nat)(hl:l.length<=900):Phi prog (k+1) 28 [.lst (l.map prT)]=.ok (.int (rings l:Nat)):=by
 have e:xec (Phi prog k) prog.gls 1000 .rgs [some (false,.lst (l.map prT)),none,none,none,none,none]=.rt (.int (rings l:Nat)):=by
  have a0:(asRows (rdV [some (false,.lst (l.map prT)),none,none,none,none,none] 0)).bind pairsI=some l:=by
   show(rowsI (l.map prT)).bind pairsI=_;rw[show l.map prT=(l.map λp=>[p.1,p.2]).map rowD by rw[zY];rfl,fA];exact iU l
  show rgsD _=_;unfold rgsD;rw[a0];exact yM ⟨rfl,hl⟩
 exact congrArg Out.val (bF (ss:=[]) e)
theorem yG(k:Nat)(s:Sheet Q m)(hm:m<=9)(hg:g<=60):Phi prog (k+2) 32 [.tup (Q.map rowD),.int (g:Nat)]=.ok (tabD (ltV (Q.map x4) g)):=by
 have wl:=p_ways k hm;have wc:(waysL m).length<=512:=by rw[fE];exact Nat.pow_le_pow_right (by decide) hm
 have ex:(Q.map x4).length=m:=by rw[yI,s.len]
 have hlen:op1 .len (.tup (Q.map rowD))=.ok (.int (m:Nat)):=by rw[pP,yI,s.len]
 have at6:∀j,j<m->op2 .at (.tup (Q.map rowD)) (.int (j:Nat))=.ok (rowD (Q.getD j [])):=λj hj=>lZ s (p:=(j,0)) ⟨hj,show 0<4 by decide⟩;have four:∀j,j<m->∃a b c d,Q.getD j []=[a,b,c,d]:=λj hj=>row4 (by
  have h:j<Q.length:=by rw[s.len];exact hj
  rw[show Q.getD j []=Q[j] by simp[h]];exact s.four _ (zS h))
 show(xecs (Phi prog (k+1)) prog.gls 1000 fR [some (false,.tup (Q.map rowD)),some (false,.int (g:Nat)),none,none,none,none,none]).val=_;generalize D.tup (Q.map rowD)=T at*;refine cD (δ':=[some (false,T),some (false,.int (g:Nat)),some (true,tabD []),none,none,none,none]) rfl ?_;have ti:(evs (Phi prog (k+1)) prog.gls false [(.call 29 [(.op1 .len (.var 0))])] [some (false,T),some (false,.int (g:Nat)),some (true,tabD []),none,none,none,none]).bind (itemsD .seq)=.ok ((waysL m).map lstI):=by
  simp only[ev,evs,rdR,rdV,Zf,Zk,yT,hlen,wl];exact aT (by rw[yI];omega)
 obtain⟨δ',e,c3,c4,c5,c6,rfl⟩:=bD (n:=1000) (tg:=[3]) (body:=[(.asg 4 (.lst [])),(.loop .rng [(.op1 .len (.var 0))] [5] [(.asg 6 (.op2 .at (.var 0) (.var 5))),(.ite (.leaf (.op2 .eq (.op2 .at (.var 3) (.var 5)) (.cst (.int 0)))) [(.asg 4 (.op2 .add (.var 4) (.lst [(.tup [(.op2 .at (.var 6) (.cst (.int 0))),(.op2 .at (.var 6) (.cst (.int 1)))]),(.tup [(.op2 .at (.var 6) (.cst (.int 2))),(.op2 .at (.var 6) (.cst (.int 3)))])])))] [(.asg 4 (.op2 .add (.var 4) (.lst [(.tup [(.op2 .at (.var 6) (.cst (.int 0))),(.op2 .at (.var 6) (.cst (.int 3)))]),(.tup [(.op2 .at (.var 6) (.cst (.int 1))),(.op2 .at (.var 6) (.cst (.int 2)))])])))])]),(.ladd 2 30 (.op2 .sub (.op1 .len (.var 0)) (.op2 .mul (.cst (.int 2)) (.op1 .sum (.var 3)))) (.op2 .add (.var 1) (.call 28 [(.var 4)])))]) ti
  (λi δ=>∃c3 c4 c5 c6,δ=[some (false,T),some (false,.int (g:Nat)),some (true,tabD (((waysL m).take i).foldl (lt1 (Q.map x4) g) [])),c3,c4,c5,c6]) ⟨_,_,_,_,rfl⟩ (by
   rintro i hi δ ⟨c3,c4,c5,c6,rfl⟩;rw[yI] at hi;have hw:=zS hi;have ok:=(xQ (X:=Q.map x4) (g:=g) ((waysL m).take i) [] (λw h=>by rw[ex];exact List.mem_of_mem_take h) ⟨z0,eS _ _ _⟩).1;rw[fold_tk hi,List.getElem_map];generalize ((waysL m).take i).foldl (lt1 (Q.map x4) g) []=t at*;generalize (waysL m)[i]=w at*;have lw:=g6 _ _ hw;obtain⟨e,he,hsum⟩:=iQ _ _ hw;have ok1:=xP ok (by rw[ex];exact hw);obtain⟨δ',e1,c5',c6',rfl⟩:=bL (Φ:=Phi prog (k+1)) (G:=prog.gls) (n:=1000) (its:=[(.op1 .len (.var 0))]) (tg:=[5]) (body:=[(.asg 6 (.op2 .at (.var 0) (.var 5))),(.ite (.leaf (.op2 .eq (.op2 .at (.var 3) (.var 5)) (.cst (.int 0)))) [(.asg 4 (.op2 .add (.var 4) (.lst [(.tup [(.op2 .at (.var 6) (.cst (.int 0))),(.op2 .at (.var 6) (.cst (.int 1)))]),(.tup [(.op2 .at (.var 6) (.cst (.int 2))),(.op2 .at (.var 6) (.cst (.int 3)))])])))] [(.asg 4 (.op2 .add (.var 4) (.lst [(.tup [(.op2 .at (.var 6) (.cst (.int 0))),(.op2 .at (.var 6) (.cst (.int 3)))]),(.tup [(.op2 .at (.var 6) (.cst (.int 1))),(.op2 .at (.var 6) (.cst (.int 2)))])])))])]) (δ:=[some (false,T),some (false,.int (g:Nat)),some (true,tabD t),some (false,lstI w),some (true,.lst []),c5,c6]) (m:=m)
    (by simp only[ev,evs,frz,leaks,leakss,rdR,rdV,Zf,Zk,Zq,yT,hlen];exact aM (by omega)) (λj δ=>∃c5 c6,δ=[some (false,T),some (false,.int (g:Nat)),some (true,tabD t),some (false,lstI w),some (true,.lst ((pairsW ((Q.take j).map x4) (w.take j)).map prT)),c5,c6]) ⟨c5,c6,rfl⟩ (by
     rintro j hj δ ⟨c5,c6,rfl⟩;have hQ:j<Q.length:=by rw[s.len];exact hj
     have hx:=fP Q w j hQ (by omega);have pl:=bU ((Q.take j).map x4) (w.take j);rw[yI,zO] at pl;have hwj:op2 .at (lstI w) (.int (j:Nat))=.ok (.int (w.getD j 0)):=l0 (by omega);obtain⟨a,b,c,d,hr⟩:=four j hj;have h6:=at6 j hj;rw[hr] at h6 hx;rw[hx,zW];generalize pairsW ((Q.take j).map x4) (w.take j)=P at*;have ha:∀x y,op2 .add (.lst (P.map prT)) (.lst [x,y])=.ok (.lst (P.map prT++[x,y])):=λx y=>lR _ _ (by rw[yI];simp only[yJ,y7];omega);refine⟨_,lf1 (aN (aL (v:=rowD [a,b,c,d]) rfl h6) (aN (aV (t:=w.getD j 0==0) ?_ ?_) rfl)),some (false,.int (j:Nat)),some (false,rowD [a,b,c,d]),rfl⟩
     ·simp only[evT,ev,frz,leaksT,leaks,rdR,rdV,Za,isOwn,frsh,Zf,Zi,Zj,Zk,Zl,Zq,yT,Zu,ZG,hwj]
     ·unfold prs
      by_cases h0:w.getD j 0=0
      ·rw[yM h0,h0]
       exact aN (aL rfl (aP rfl rfl (ha _ _))) rfl
      ·rw[yK h0,show(w.getD j 0==0)=false by simpa using h0]
       exact aN (aL rfl (aP rfl rfl (ha _ _))) rfl)
   rw[zX (by rw[s.len];omega),zX (by omega)] at e1;have pl:=bU (Q.map x4) w;rw[ex] at pl;have rr:=p_rings k (l:=pairsW (Q.map x4) w) (by omega);have rl:=pX (pairsW (Q.map x4) w).length (pairsW (Q.map x4) w);have ch:=uI k (n:=ltN (Q.map x4) g w) (zB (Nat.add_le_add_left rl g) (by omega));have su:op1 .sum (lstI w)=.ok (.int w.sum):=by
    show(if(intL w).length<=1000/\(intL w).all smallI=true then ofO ((sumI (intL w)).map .int) else .bad)=_;rw[yM ⟨by simp only[intL,yI];omega,iV _ _ hw⟩,i7];rfl
   refine⟨_,lf1 (aN rfl (aN e1 (aN (xU (t:=t) (pv:=(m:Int)-2*w.sum) (rv:=(ltN (Q.map x4) g w:Nat)) (t':=lt1 (Q.map x4) g t w) rfl rfl ?_ ?_ ?_) rfl))),_,_,_,_,rfl⟩
   ·simp only[ev,frz,frz1,leaks,leakss,rdR,rdV,Zf,Zi,Zj,Zk,Zl,Zo,Zq,yT,yX,yH,ZB,hlen,su,mul2]
   ·simp only[ev,evs,frz,frz1,leaks,leakss,rdR,rdV,Zf,Zi,Zj,Zk,Zl,Zo,Zq,yT,yX,yH,ZA,rr];rfl
   ·exact ladd_ok ch ok ok1 (by rw[ex]) (by omega) (zB (Nat.add_le_add_left rl g) (by omega)))
 rw[yI,zV] at e;refine cD e ?_;unfold ltV;rw[ex];rfl
theorem oN(k:Nat)(nd:keysNd t)(h:gdK t=true)(hs:s=1\/s= -1):Phi prog (k+1) 33 [tabD t,.int sh,.int s]=.ok (.lst ((telT t).map λx=>prT (x.1+sh,s*x.2))):=by
 have mu:∀x:Int,op2 .mul (.int s) (.int x)=.ok (.int (s*x)):=λx=>fM _ _ (.inl (by rcases hs with rfl|rfl<;>decide));have e:ev (Phi prog k) prog.gls false (.comp .seq [(.op1 .sorted (.var 0))] [1,2,0] 1 (some (.leaf (.op2 .ne (.dget (.var 3) (.var 0)) (.cst (.int 0))))) (.tup [(.op2 .add (.var 0) (.var 1)),(.op2 .mul (.var 2) (.dget (.var 3) (.var 0)))])) [some (false,tabD t),some (false,.int sh),some (false,.int s)]=_:=
  oG (λx=>prT (x.1+sh,s*x.2)) nd h rfl (λi hi=>xX (gJ nd hi rfl rfl)) λi hi=>lS rfl (aP rfl (gJ nd hi rfl rfl) (mu _))
 exact congrArg Out.val (bF (ss:=[]) (cJ e))
theorem p_total(k:Nat){g M:Nat}(h:gdS M (Q,(g:Int)))(hM:M<=62)(hg:gdK (ptV (Q,(g:Int)))=true):Phi prog (k+4) 13 [shD Q (g:Int)]=.ok (.lst ((telT (ptV (Q,(g:Int)))).map prT)):=by
 obtain⟨e1,nd,_⟩:=rW (Φ:=Phi prog (k+3)) (f:=1) h hM λs hs hn w hw=>sG k hs.1 (by have:=hs.2.1;omega) hn hw;show(xecs (Phi prog (k+3)) prog.gls 1000 r8 [some (false,shD Q (g:Int)),none]).val=_;have e2:xec (Phi prog (k+3)) prog.gls 1000 (.pow 1 0 1) [some (false,shD Q (g:Int)),none]=.nx [some (false,shD Q (g:Int)),some (false,tabD (ptV (Q,(g:Int))))]:=by
  have e1:powD (Phi prog (k+3)) 1 (shD Q (g:Int))=some (tabD (ptV (Q,(g:Int)))):=e1;rw[xec];show(match powD (Phi prog (k+3)) 1 (shD Q (g:Int)) with
   |some r=>Out.nx [some (false,shD Q (g:Int)),some (false,r)]
   |none=>.bad)=_
  rw[e1]
 refine cD e2 ?_;generalize ptV (Q,(g:Int))=t at*;have e:ev (Phi prog (k+3)) prog.gls false (.comp .seq [(.op1 .sorted (.var 1))] [1] 1 (some (.leaf (.op2 .ne (.dget (.var 1) (.var 0)) (.cst (.int 0))))) (.tup [(.var 0),(.dget (.var 1) (.var 0))])) [some (false,shD Q (g:Int)),some (false,tabD t)]=_:=
  oG prT nd hg rfl (λi hi=>xX (gJ nd hi rfl rfl)) λi hi=>lS rfl (gJ nd hi rfl rfl)
 exact congrArg Out.val (bF (ss:=[]) (cJ e))
theorem qF(k:Nat){m g:Nat}{L:List (Int×Int)}(s:Sheet Q m)(hm:m<=9)(hL:L.length<=1000)(ht:Phi prog (k+5) 13 [shD Q (g:Int)]=.ok (.lst (L.map prT))):Phi prog (k+6) 14 [shD Q (g:Int)]=.ok (.lst (L.map λx=>prT (x.1+ -3*twV Q m,(1-2*(twV Q m%2))*x.2))):=by
 have tw:=p_twist k (g:=(g:Int)) s (by omega);show(xecs (Phi prog (k+5)) prog.gls 1000 iY [some (false,shD Q (g:Int)),none,none]).val=_;generalize twV Q m=w at*;generalize shD Q (g:Int)=T at*;have e2:ev (Phi prog (k+5)) prog.gls false (.ite (.leaf (.op2 .eq (.op2 .mod (.var 1) (.cst (.int 2))) (.cst (.int 0)))) (.cst (.int 1)) (.op1 .neg (.cst (.int 1)))) [some (false,T),some (false,.int w),none]=.ok (.int (1-2*(w%2))):=by
  have m2:op2 .mod (.int w) (.int 2)=.ok (.int (w%2)):=nQ _ _ (by decide);have:w%2=0\/w%2=1:=by omega
  rcases this with h|h<;>rw[h] at m2⊢<;>simp only[evT,ev,rdR,rdV,Za,Zf,Zk,Zl,yT,ZG,ZO,m2]<;>rfl
 refine cD (aL rfl tw) (cD (aL rfl e2) ?_);have hs:1-2*(w%2)=1\/1-2*(w%2)= -1:=by omega
 generalize 1-2*(w%2)=sg at*;have mu:∀x:Int,op2 .mul (.int sg) (.int x)=.ok (.int (sg*x)):=λx=>fM _ _ (.inl (by rcases hs with rfl|rfl<;>decide));have e:=oE (Φ:=Phi prog (k+5)) (G:=prog.gls) (m:=false) (k:=.seq) (its:=[(.call 13 [(.var 0)])]) (caps:=[2,1]) (ntg:=2) (cond:=none) (elt:=.tup [(.op2 .sub (.var 0) (.op2 .mul (.cst (.int 3)) (.var 3))),(.op2 .mul (.var 2) (.var 1))]) (δ:=[some (false,T),some (false,.int w),some (false,.int sg)]) (a:=prT) (xs:=L) (λ_=>true) (λx=>prT (x.1+ -3*w,sg*x.2))
  (by simp only[ev,evs,rdR,rdV,Zf,Zk,yX,yH,ht];exact aT (by simpa using hL)) λx _=>by
   have m3:op2 .mul (.int 3) (.int w)=.ok (.int (3*w)):=fM _ _ (.inl (by decide));have mx:=mu x.2;rw[show prT (x.1+ -3*w,sg*x.2)=.tup [.int (x.1-3*w),.int (sg*x.2)] by unfold prT;congr 3;omega];exact(congrArg (R.bind · λy=>R.ok (some y)) (lS (Φ:=Phi prog (k+5)) (G:=prog.gls) (m:=false) (δ:=[some (false,.int x.1),some (false,.int x.2),some (false,.int sg),some (false,.int w)]) (aP rfl (aP rfl rfl m3) rfl) (aP rfl rfl mx)))
 rw[List.filter_eq_self.mpr λ_ _=>rfl] at e;exact congrArg Out.val (bF (ss:=[]) (cJ e))
theorem p_alike(k:Nat){L:List (Int×Int)}(hL:L.length<=1000):Phi prog (k+2) 34 [.lst (L.map prT),.lst (L.map prT)]=.ok (.bl true):=by
 have wh:∀x,Phi prog (k+1) 25 [.int x]=.ok (.bl true):=p_whole k;have i1:op1 .isLst (.lst (L.map prT))=.ok (.bl true):=o_isLl _ (by
  rw[show L.map prT=(L.map λp=>[p.1,p.2]).map rowD by rw[zY];rfl];exact tY 998 _)
 have il:op1 .len (.lst (L.map prT))=.ok (.int (L.length:Nat)):=by rw[o_lenL,yI]
 have ia:∀i,i<L.length->∃p:Int×Int,op2 .at (.lst (L.map prT)) (.int (i:Nat))=.ok (prT p):=λi hi=>⟨L[i],by
  rw[o_atL,at_nat (by simpa using hi)];simp[ofO]⟩
 show(xecs (Phi prog (k+1)) prog.gls 1000 fS [some (false,.lst (L.map prT)),some (false,.lst (L.map prT)),none]).val=_;generalize D.lst (L.map prT)=T at*;refine cD (aV (t:=false) (by simp only[evT,ev,frz,leaksT,leaks,rdR,rdV,Za,Zf,Zk,Zl,Zq,yT,yX,yH,Zv,ZH,i1,il,beq_self_eq_true]) rfl) (pY (m:=L.length) (by simp only[ev,evs,frz,leaksT,leaks,leakss,rdR,rdV,Zf,Zk,Zl,Zq,yT,il];exact aM hL) (λ_ δ=>∃c,δ=[some (false,T),some (false,T),c]) ⟨_,rfl⟩ ?_ ?_)
 ·rintro i hi δ ⟨c,rfl⟩
  obtain⟨p,hp⟩:=ia i hi;have t1:op1 .isTup (prT p)=.ok (.bl true):=tZ [p.1,p.2];have t2:op1 .len (prT p)=.ok (.int 2):=rfl;have a0:op2 .at (prT p) (.int 0)=.ok (.int p.1):=rfl;have a1:op2 .at (prT p) (.int 1)=.ok (.int p.2):=rfl;have ne:op2 .ne (prT p) (prT p)=.ok (.bl false):=by
   have:eqD (prT p) (prT p)=true:=by simp[prT,eqD,eqDs]
   show(if(pln 9 (prT p)&&pln 9 (prT p)&&kin (prT p) (prT p))=true then R.ok (D.bl (!eqD (prT p) (prT p))) else R.bad)=_;rw[this];rfl
  refine⟨_,lf1 (aN (aV (t:=false) ?_ rfl) (aN (aV (t:=false) ?_ rfl) rfl)),_,rfl⟩
  ·simp only[evT,ev,frz,leaksT,leaks,rdR,rdV,Za,Zf,Zi,Zj,Zk,Zl,Zq,yT,yX,yH,Zv,ZH,hp,t1,t2,beq_self_eq_true]
  ·simp only[evT,ev,evs,frz,leaksT,leaks,leakss,rdR,rdV,Za,Zf,Zi,Zj,Zk,Zl,Zq,yT,yX,yH,Zv,hp,a0,a1,wh,ne]
 ·rintro δ ⟨c,rfl⟩
  rfl
theorem law_true:∀ns:List Int,ns.length<=63->Phi prog depth lawId [.scr ns]=.ok (.bl true):=by
 intro ns _;show(xecs (Phi prog 9) prog.gls 1000 b_law [some (false,.scr ns),none,none,none,none,none]).val=_;have c0:Phi prog 9 21 [.scr ns,.int 0]=.ok (.int (cellV ns 0)):=lY 8 ns 0;have c1:Phi prog 9 21 [.scr ns,.int 1]=.ok (.int (cellV ns 1)):=lY 8 ns 1;have c2:Phi prog 9 21 [.scr ns,.int 2]=.ok (.int (cellV ns 2)):=lY 8 ns 2;have md:∀x y:Int,0<y->op2 .mod (.int x) (.int y)=.ok (.int (x%y)):=λx y h=>nQ _ _ h;have m5:=λx=>md x 5 (by decide);have m7:=λx=>md x 7 (by decide);have m8:=λx=>md x 8 (by decide);have m2:=λx=>md x 2 (by decide);have m61:=λx=>md x 61 (by decide);have d5:op2 .fdiv (.int (cellV ns 0)) (.int 5)=.ok (.int (cellV ns 0/5)):=xB _ _ (by decide);obtain⟨m,g,hb,he⟩:∃m g:Nat,(m<=9/\g<=6\/m<=1/\g<=60)/\xecs (Phi prog 9) prog.gls 1000 b_law [some (false,.scr ns),none,none,none,none,none]=xecs (Phi prog 9) prog.gls 1000 (b_law.drop 4) [some (false,.scr ns),some (false,.int (m:Nat)),some (false,.int (g:Nat)),none,none,none]:=by
  refine⟨(if cellV ns 2%8=1 then cellV ns 0%5%2 else if cellV ns 2%8=2 then 5+cellV ns 0/5%5 else cellV ns 0%5).toNat,(if cellV ns 2%8=1 then cellV ns 1%61 else cellV ns 1%7).toNat,?_,?_⟩
  ·split
   ·omega
   ·split<;>omega
  ·by_cases h1:cellV ns 2%8=1
   ·have z1:(cellV ns 2%8==1)=true:=by simpa using h1
    have z2:(cellV ns 2%8==2)=false:=by simp;omega
    rw[yM h1,yM h1,Int.toNat_of_nonneg (by omega),Int.toNat_of_nonneg (by omega)];exact aN (aL rfl (aP c0 rfl (m5 _))) (aN (aL rfl (aP c1 rfl (m7 _))) (aN (aV (t:=true) (by simp only[evT,ev,evs,frz,frz1,leaksT,leaks,leakss,rdR,rdV,Za,isOwn,frsh,Zf,Zi,Zj,Zk,Zq,yX,yH,Zs,ZG,c2,m8,z1]) (aN (aL rfl (aP rfl rfl (m2 _))) (aN (aL rfl (aP c1 rfl (m61 _))) rfl))) (aN (aV (t:=false) (by simp only[evT,ev,evs,frz,frz1,leaksT,leaks,leakss,rdR,rdV,Za,isOwn,frsh,Zf,Zi,Zj,Zk,Zq,yX,yH,Zs,ZG,c2,m8,z2]) rfl) rfl)))
   ·have z1:(cellV ns 2%8==1)=false:=by simpa using h1
    rw[yK h1,yK h1];by_cases h2:cellV ns 2%8=2
    ·have z2:(cellV ns 2%8==2)=true:=by simpa using h2
     rw[yM h2,Int.toNat_of_nonneg (by omega),Int.toNat_of_nonneg (by omega)];exact aN (aL rfl (aP c0 rfl (m5 _))) (aN (aL rfl (aP c1 rfl (m7 _))) (aN (aV (t:=false) (by simp only[evT,ev,evs,frz,frz1,leaksT,leaks,leakss,rdR,rdV,Za,isOwn,frsh,Zf,Zi,Zj,Zk,Zq,yX,yH,Zs,ZG,c2,m8,z1]) rfl) (aN (aV (t:=true) (by simp only[evT,ev,evs,frz,frz1,leaksT,leaks,leakss,rdR,rdV,Za,isOwn,frsh,Zf,Zi,Zj,Zk,Zq,yX,yH,Zs,ZG,c2,m8,z2]) (aN (aL rfl (aP rfl (aP (aP c0 rfl d5) rfl (m5 _)) rfl)) rfl)) rfl)))
    ·have z2:(cellV ns 2%8==2)=false:=by simpa using h2
     rw[yK h2,Int.toNat_of_nonneg (by omega),Int.toNat_of_nonneg (by omega)];exact aN (aL rfl (aP c0 rfl (m5 _))) (aN (aL rfl (aP c1 rfl (m7 _))) (aN (aV (t:=false) (by simp only[evT,ev,evs,frz,frz1,leaksT,leaks,leakss,rdR,rdV,Za,isOwn,frsh,Zf,Zi,Zj,Zk,Zq,yX,yH,Zs,ZG,c2,m8,z1]) rfl) (aN (aV (t:=false) (by simp only[evT,ev,evs,frz,frz1,leaksT,leaks,leakss,rdR,rdV,Za,isOwn,frsh,Zf,Zi,Zj,Zk,Zq,yX,yH,Zs,ZG,c2,m8,z2]) rfl) rfl)))
 rw[he];have hr:=p_rows 6 ns 3 m (by omega);have sh:=pT (λk=>pickV ns (3+k)) m;have gp:=(GP.start0 m).run (pk:=λk=>pickV ns (3+k)) (m:=m) (by show(List.replicate (4*m) (-1:Int)).length=_;simp);obtain⟨k1,k2⟩:=iN m _ gp.2;generalize chunks m (runP (λk=>pickV ns (3+k)) (startP m [])).owner=R at*;have hn:Phi prog 9 24 [.lst (R.map rowD)]=_:=qB 8 k2 (by omega);generalize numV R=Q at*;have hr:Phi prog 9 23 [.scr ns,.int 3,.int (m:Nat),.lst []]=_:=hr;have gd:gdS ((g+2*m:Nat):Int) (Q,(g:Int)):=⟨sh.four,by show Q.length<=9;rw[sh.len];omega,by show(0:Int)<=g;omega,by show(g:Int)+2*(Q.length:Nat)<=_;rw[sh.len];omega⟩
 obtain⟨_,nd,pv,pi⟩:=rW (Φ:=Phi prog 3) (f:=1) gd (by omega) λs hs hn w hw=>sG 0 hs.1 (by have:=hs.2.1;omega) hn hw;have pi:inK 2 ((Q.length:Nat)+2*_) (Q.length+1+2*(g+2*m+1)) _:=pi;rw[sh.len] at pi;obtain⟨g1,g2⟩:=good sh hb pi nd;obtain⟨⟨ld,_⟩,lv⟩:=xR (Q.map x4) g;have te:telT (ptV (Q,(g:Int)))=telT (ltV (Q.map x4) g):=tel_ext nd ld (pv.trans lv.symm);have tl:=tel_len g2;have t1:=λk=>p_total k gd (by omega) g1;rw[te] at t1;have t2:Phi prog 9 32 [.tup (Q.map rowD),.int (g:Nat)]=_:=yG 7 sh (by omega) (by omega);have t3:Phi prog 9 33 [tabD (ltV (Q.map x4) g),.int 0,.int 1]=_:=oN 8 ld g2 (.inl rfl);have t4:Phi prog 9 27 [.tup (Q.map rowD)]=_:=yF 7 sh (by omega);have t5:Phi prog 9 14 [shD Q (g:Int)]=_:=qF 3 sh (by omega) (by omega) (t1 4);have t6:Phi prog 9 33 [tabD (ltV (Q.map x4) g),.int (-3*twV Q m),.int (1-2*(twV Q m%2))]=_:=oN 8 ld g2 (by omega);have t7:∀L:List (Int×Int),L.length<=1000->Phi prog 9 34 [.lst (L.map prT),.lst (L.map prT)]=.ok (.bl true):=λL h=>p_alike 7 h;have t1:Phi prog 9 13 [shD Q (g:Int)]=_:=t1 5;have e3:(telT (ltV (Q.map x4) g)).map (λx=>prT (x.1+0,1*x.2))=(telT (ltV (Q.map x4) g)).map prT:=aAE λx _=>by simp
 rw[e3] at t3;generalize telT (ltV (Q.map x4) g)=L at*;have a1:=t7 L (by omega);have a2:=t7 (L.map λx=>(x.1+ -3*twV Q m,(1-2*(twV Q m%2))*x.2)) (by rw[yI];omega);rw[zY] at a2;have a2:Phi prog 9 34 [.lst (L.map λx=>prT (x.1+ -3*twV Q m,(1-2*(twV Q m%2))*x.2)),.lst (L.map λx=>prT (x.1+ -3*twV Q m,(1-2*(twV Q m%2))*x.2))]=_:=a2;have m3:op2 .mul (.int (-3)) (.int (twV Q m))=.ok (.int (-3*twV Q m)):=fM _ _ (.inl (by decide));have m4:op2 .mul (.int 2) (.int (twV Q m%2))=.ok (.int (2*(twV Q m%2))):=mul2 _;have m5:=m2 (twV Q m);generalize twV Q m=w at*;generalize tabD (ltV (Q.map x4) g)=T at*;have sd:D.tup [.tup (Q.map rowD),.int (g:Int)]=shD Q (g:Int):=rfl;generalize shD Q (g:Int)=S at*;generalize D.tup (Q.map rowD)=U at*;generalize D.lst (L.map λx=>prT (x.1+ -3*w,(1-2*(w%2))*x.2))=V at*;generalize D.lst (L.map prT)=W at*;simp only[b_law,List.drop_succ_cons,List.drop_zero,xecs,xec,evT,ev,evs,frz,frz1,leaksT,leaks,leakss,rdR,rdV,Za,Zc,isOwn,frsh,Zf,Zi,Zj,Zk,Zl,Zo,Zp,Zq,yT,yX,yH,Zu,Zv,ZB,ZO,hr,hn,t2,sd,t1,t3,a1,t4,t5,m3,m5,m4,t6,a2];rfl
end L
theorem PySem.Challenge.cw_cordbook_k12_total_and_straight_holds : PySem.Challenge.rw_cordbook_k12_total_and_straight.Holds :=
 L.beg fun hn hd hY hf => L2.Snd.walk_law4 (l := PySem.Challenge.rw_cordbook_k12_total_and_straight) (Pg := L.prog) (f := L.lawId) (j := L.depth) L.law_true rfl hd hY (fun _ _ _ _ _ _ KX Tp hmg => L.all_mk KX Tp (hn ▸ hmg) (hf _) L.depth) (by decide)
