import PyProof.Rows.All
import Wide.All
import OpenK.AllK
import Wide.FinOn
import HandS.ForMost
import HandS.WideBits
import HandS.Defaults
import HandS.ExcInit
import HandS.IsInst
import HandS.Style
import HandS.Strs
import HandS.Zip
import HandS.NestedK
import HandS.EndTab
import HandS.CallLocal
import HandS.Walk
import PyProof.ListStr
import HandS.Conv
import HandS.Set
import HandS.TupSets
import HandS.SetFor
import HandS.SetTxt0
import PyProof.Rows.SortShellAny
import HandS.Deep
import PyProof.P3In
import HandS.More
import HandS.TryOnly
import HandS.TupLe
import HandS.FStr
import HandS.Small
import PyProof.EqKinds
import HandS.ExcIs
import PyProof.ReprRoads
import HandS.ExcField
import KE.KExcIs
import HandS.ExcValue
import HandS.ExcCtx
import HandS.Hot
import HandS.TryMany
import PyProof.Rows.TupIter
import HandS.DictComp
import HandS.Zip0
import KE.KDictWalk
import HandS.Comp
import HandS.List
import KE.KDictList
import HandS.HotCalls
import HandS.Words
import PyProof.Rows.StrSplitCount
import PyProof.StrLawsChain
import HandS.HeadHook3
import PySem.Challenge.RW_phrasejoins_k43_named_steps_refused_and
set_option Elab.async false
set_option linter.all false
set_option maxRecDepth 100000
set_option maxHeartbeats 8000000
/-! Rules of our own: a list extended by a tuple; the end of a list cut off. Types as data. -/
namespace KT
open PySem PySem.Spec PyProof.Rows L2
open PySem.Sem (wp)
open MeetsSeq
/-! ### xs.extend(t), t a tuple -/
theorem list_extend_tup (l : Addr) (items : Array Value) (n : Nat) (b : Addr) (dd : Option Addr) (sl : Array (Option Value)) (items2 : Array Value) (n2 : Nat) (hs0 : ¬(!items.isEmpty && Builtin.List.listTooLong (items.size + items2.size)) = true) (hs1 : items.size ≤ sizeLine) (hs2 : items.size + items2.size ≤ sizeLine + 1) :
    Meets (Builtin.«list.extend» ⟨[.ref l, .ref b], []⟩) (fun _ R s => s.heap.get? l = some { cls := .type "list", dict := none, data := .seq items n, slots := #[] } ∧ s.heap.get? b = some { cls := .type "tuple", dict := dd, data := .seq items2 n2, slots := sl } ∧ R (.ok (.ret Value.none)) { s with heap := s.heap.update l (Obj.mapSeq fun x => x ++ items2), toks := s.toks }) :=
  .of_wp fun prog w A R s h => by
    obtain ⟨hp, g, d, tk, os⟩ := s; obtain ⟨hl, hb, h⟩ := h
    have f1 := AutoSeq1.idx_int; have f2 := AutoSeq1.sub_tuple_tuple; have f3 := AutoSeq1.sub_list_list; have f4 := AutoSeq1.sub_tuple_list; have f5 := AutoSeq1.sub_list_tuple
    have hz' : (items ++ items2).size ≤ sizeLine + 1 := by rw [Array.size_append]; exact hs2
    wp_walk using (wpAny_updateSeq hl rfl (hz := hs1) (_hz' := hz')), wpAny_loadPart' hl, wpAny_loadPart' hb; exact ⟨_, rfl, h⟩
section
variable {X : Cx}
def rExtT (K : PySem.W.Frag) : V → List V → Hp → VK → Prop := fun x vs H Q => ∃ l b xs zs, x = .ref l ∧ vs = [.ref b] ∧ H l = some (.lst xs) ∧ SqT K H b zs ∧ xs.length + zs.length ≤ sizeLine ∧ Q .non (upd H l (.lst (xs ++ zs)))
theorem mt_extT : MtM X "list.extend" (rExtT X.K) := by
  intro pins s σ H x vs v us Q I rx rv h
  obtain ⟨l, b, xs, zs, rfl, rfl, hH, hB, hz, q⟩ := h
  cases rx
  obtain ⟨u, rfl, ru⟩ := rv.one
  cases ru
  obtain ⟨z, its, n, r, hl, e⟩ := I.lstM hH
  obtain ⟨its2, r2, ⟨o, ho, hc, n2, hd⟩, hz2⟩ := I.tuple hB
  obtain ⟨oc, od, dt, sl⟩ := o
  simp only at hc hd
  subst hc hd
  have hl2 := r2.length
  have hsz : its.toArray.size + its2.toArray.size ≤ sizeLine := by rw [List.size_toArray, List.size_toArray]; omega
  have hlong : ¬ (!its.toArray.isEmpty && Builtin.List.listTooLong (its.toArray.size + its2.toArray.size)) = true := by
    rw [notLongL hsz, Bool.and_false]
    exact Bool.false_ne_true
  refine call_meets F.slot_list_extend ⟨_, e, rfl⟩ F.entry_list_extend (F.args_list_extend_2 _ _)
    (list_extend_tup l its.toArray n b od sl its2.toArray n2 hlong (by rw [List.size_toArray]; omega) (by omega)) ⟨e, ho, ?_⟩
  refine ⟨.non, _, I.lset (its' := its ++ its2) hH e (by simp) (r.append r2) ?_, rfl, q⟩
  rw [List.length_append]
  omega
end
/-! ### del xs[a:] -/
theorem drop_tail (its : List Value) (a : Nat) (h : a ≤ its.length) :
    (its.toArray.toList.zipIdx.filterMap fun (p : Value × Nat) => if (decide ((a : Int) ≤ (p.2 : Int)) && decide ((p.2 : Int) < (its.toArray.size : Int)) && ((p.2 : Int) - a) % 1 == 0) = true then none else some p.1).toArray = (its.take a).toArray := by
  congr 1
  rw [List.toList_toArray, List.size_toArray]
  have key : ∀ (l : List Value) (k : Nat), k + l.length ≤ its.length → (l.zipIdx k).filterMap (fun (p : Value × Nat) => if (decide ((a : Int) ≤ (p.2 : Int)) && decide ((p.2 : Int) < (its.length : Int)) && ((p.2 : Int) - a) % 1 == 0) = true then none else some p.1) = l.take (a - k) := by
    intro l
    induction l with
    | nil => intro k _; simp
    | cons x r ih =>
      intro k hk
      rw [List.length_cons] at hk
      rw [List.zipIdx_cons, List.filterMap_cons, ih (k + 1) (by omega)]
      have h1 : ((k : Int) - a) % 1 = 0 := by omega
      have h2 : ((k : Int) < (its.length : Int)) := by omega
      by_cases c : a ≤ k
      · have c' : ((a : Int) ≤ (k : Int)) := by omega
        have e0 : a - k = 0 := by omega
        have e1 : a - (k + 1) = 0 := by omega
        simp [h1, h2, c', e0, e1]
      · have c' : ¬ ((a : Int) ≤ (k : Int)) := by omega
        have e0 : a - k = (a - (k + 1)) + 1 := by omega
        simp [c', e0]
  have q := key its 0 (by omega)
  simpa using q
section
variable {prog : Program} {w : World} {A : Around} {E : Value → Shared → Prop} {s : Shared}
theorem bounds_end {a n : Nat} (h : a ≤ n) : sliceBounds (some (a : Int)) none none n = ((a : Int), (n : Int), 1) := by
  simp only [sliceBounds, Option.getD_none]
  have h1 : ¬ ((a : Int) < 0) := by omega
  simp only [h1, if_false, show (1 : Int) > 0 by decide, if_true]
  congr 1
  omega
theorem delItem_slice {l sl : Addr} {its : List Value} {n : Nat} {vl : Value} {a : Nat} {Q : Unit → Shared → Prop}
    (e : s.heap.get? l = some { cls := .type "list", data := .seq its.toArray n }) (hs : s.heap.IsSliceOf sl vl .none .none) (pl : IsPart vl (some (a : Int))) (ha : a ≤ its.length) (hsz : its.toArray.size ≤ sizeLine)
    (h : ∀ g : Array Value → Array Value, g its.toArray = (its.take a).toArray → Q () { s with heap := s.heap.update l (Obj.mapSeq g) }) :
    wpAny (model prog w) A (delItem (.ref l) (.ref sl)) Q E s := by
  have hl : s.heap.IsList l its.toArray := PySem.IsL.isList e
  obtain ⟨os, hos, hcs, hds⟩ := id hs
  have hTs : s.TypeIs (.ref sl) "slice" := ⟨os, hos, hcs⟩
  have hstep : ¬ ((rawPart none == rawInt 0) = true) := Bool.false_ne_true
  refine wpAny_delItem_slot hl.typeIs (by decide) F.slot_list_delitem (wpAny_call_entry F.slot_list_delitem hl.typeIs F.entry_list_delitem ?_ (F.args_list_delitem_2 _ _))
  show wpAny _ _ (Builtin.List.listSubscript? (.ref sl) >>= _) _ _ s
  refine wpAny_bind ?_
  unfold Builtin.List.listSubscript?
  refine wpAny_bind (wpAny_specialOf hTs slice_no_index ?_)
  simp only [Option.isNone_none, if_true]
  refine wpAny_pure ?_
  show wpAny _ _ (typeOf (.ref sl) >>= _) _ _ s
  refine wpAny_bind (wpAny_typeOf hTs ?_)
  first
    | rw [if_neg (by decide)]
    | refine PySem.W.KFB.if_not (by decide) ?_
  rw [listSliceParts_eq]
  refine wpAny_bind (wpAny_bind (wpAny_field hos hds (x := .none) rfl (wpAny_bind (wpAny_listPart .none ?_))))
  rw [if_neg hstep]
  refine wpAny_bind (wpAny_field hos hds (x := vl) rfl (wpAny_bind (wpAny_listPart pl ?_)))
  refine wpAny_bind (wpAny_field hos hds (x := .none) rfl (wpAny_bind (wpAny_listPart .none (wpAny_pure ?_))))
  refine wpAny_bind (m := Builtin.List.listItems (.ref l)) ?_
  unfold Builtin.List.listItems
  refine wpAny_bind (wpAny_seqItems e rfl (wpAny_pure ?_))
  refine wpAny_bind (wpAny_of_eq ((sliceIndices_raw (some (a : Int)) none none its.toArray.size (by simp)).trans (congrArg (pure : Int × Int × Int → Sem (Int × Int × Int)) (bounds_end (by rw [List.size_toArray]; exact ha)))) ?_)
  refine wpAny_bind (wpAny_rule ?_)
  refine wpAny_bind (wpAny_updateSeq (hz := hsz) (_hz' := ?hz) e rfl ?main)
  case hz =>
    refine Nat.le_trans (Nat.le_of_eq (congrArg Array.size (drop_tail its a ha))) ?_
    rw [List.size_toArray, List.length_take]
    rw [List.size_toArray] at hsz
    omega
  case main =>
    refine wpAny_bind (wpAny_letGo ?_)
    refine wpAny_pure ⟨.none, rfl, h _ ?_⟩
    exact drop_tail its a ha
end
section
variable {X : Cx}
/-- del xs[a:] of a list -/
def tDelTail (to : TE) (tl : TO) : TS := fun D σ H => to σ H fun x H1 => tl σ H1 fun y H2 => ∃ (l : Addr) (xs : List V) (a : Nat), x = .ref l ∧ y = some (a : Int) ∧ H2 l = some (.lst xs) ∧ a ≤ xs.length ∧ D.nx σ (upd H2 l (.lst (xs.take a)))
theorem ps_delTail {o : Expr} {lo : Option Expr} {to : TE} {tl : TO} {tpos p2 pos : Pos} (ho : PE X o to) (hl : PO X lo tl) : PS X (.Delete [.Subscript o (.Slice lo none none p2) tpos] pos) (tDelTail to tl) := by
  refine ⟨fun pins s σ H D I h => ?_⟩
  refine wpAny_Delete (wpAny_deleteEach_cons (wpAny_delete_Subscript (thn (ho.run pins s σ H _ I h) fun u s1 ⟨x, H1, I1, rx, q1⟩ => wpAny_Slice (thn (hl.run pins s1 σ H1 _ I1 q1) fun vl s2 ⟨l, H2, I2, pl, q2⟩ => ?_))))
  rw [evalPart_none]
  refine wpAny_pure ?_
  refine wpAny_pure ?_
  obtain ⟨ll, xs, a, ex, ey, hH, ha, q2⟩ := q2
  subst ex
  subst ey
  cases (show u = Value.ref ll from rx)
  have I4 : Inv X pins σ H2 { s2 with heap := s2.heap.push { cls := .type "slice", data := .fields #[vl, .none, .none] } } := I2.kept (t' := s2.toks) fun b ob q => Heap.get?_push_of_some _ q
  obtain ⟨z, its, n, r, hl', e⟩ := I4.lstM hH
  refine delItem_slice (a := a) e (Heap.IsSliceOf.new ..) pl (by omega) (by rw [List.size_toArray]; omega) fun g hg => wpAny_deleteEach_nil ⟨σ, _, I4.lset (its' := its.take a) (t' := s2.toks) hH e hg (r.take a) ?_, q2⟩
  rw [List.length_take]
  omega
end
end KT

namespace Q4
open PySem PySem.Spec PyProof.Rows L2
open PySem.W (Frag)
/-! ### the text by places -/
def top (i : Nat) : Stmt := PySem.Challenge.pw_phrasejoins_k43_named_steps_refused_and.main.body.getD i (.Pass ⟨0, 0, 0, 0⟩)
abbrev sIsWord : Stmt := top 7
abbrev sIsSigned : Stmt := top 10
abbrev sIsKind : Stmt := top 11
abbrev sCheckKind : Stmt := top 12
abbrev sHasSign : Stmt := top 13
abbrev sOver : Stmt := top 15
abbrev sUnder : Stmt := top 16
abbrev sRaising : Stmt := top 17
abbrev sComposedOver : Stmt := top 18
abbrev sComposedUnder : Stmt := top 19
abbrev sComposing : Stmt := top 20
abbrev sDividing : Stmt := top 21
abbrev sSwapping : Stmt := top 22
abbrev sParting : Stmt := top 23
abbrev sPacking : Stmt := top 24
abbrev sLPurse : Stmt := top 26
abbrev sLMixed : Stmt := top 27
abbrev sLDraw : Stmt := top 28
abbrev sLOneOf : Stmt := top 29
abbrev sLExact : Stmt := top 30
abbrev sLWord : Stmt := top 31
abbrev sLWords : Stmt := top 32
abbrev sLIsVery : Stmt := top 33
abbrev sLKind : Stmt := top 34
abbrev sLSomeKind : Stmt := top 35
abbrev sLOddKinds : Stmt := top 36
abbrev sLNamed : Stmt := top 37
abbrev sLCases : Stmt := top 38
abbrev sLPlainSome : Stmt := top 39
abbrev sLByName : Stmt := top 40
abbrev sLRaises : Stmt := top 41
abbrev sLWordOf : Stmt := top 42
abbrev sLKindsFall : Stmt := top 43
abbrev sLShapesFall : Stmt := top 44
abbrev sLaw : Stmt := top 45
abbrev nIsWord : List Str := ["value", "letter"]
abbrev pIsWord : List Str := ["value"]
theorem scIsWord : FnScope nIsWord pIsWord (defScope sIsWord) := ⟨rfl, rfl, rfl, by decide +kernel, rfl, by decide +kernel, by decide +kernel⟩
abbrev nIsSigned : List Str := ["value"]
abbrev pIsSigned : List Str := ["value"]
theorem scIsSigned : FnScope nIsSigned pIsSigned (defScope sIsSigned) := ⟨rfl, rfl, rfl, by decide +kernel, rfl, by decide +kernel, by decide +kernel⟩
abbrev nIsKind : List Str := ["value", "waiting", "part"]
abbrev pIsKind : List Str := ["value"]
theorem scIsKind : FnScope nIsKind pIsKind (defScope sIsKind) := ⟨rfl, rfl, rfl, by decide +kernel, rfl, by decide +kernel, by decide +kernel⟩
abbrev nCheckKind : List Str := ["kind"]
abbrev pCheckKind : List Str := ["kind"]
theorem scCheckKind : FnScope nCheckKind pCheckKind (defScope sCheckKind) := ⟨rfl, rfl, rfl, by decide +kernel, rfl, by decide +kernel, by decide +kernel⟩
abbrev nHasSign : List Str := ["kind", "sign"]
abbrev pHasSign : List Str := ["kind", "sign"]
theorem scHasSign : FnScope nHasSign pHasSign (defScope sHasSign) := ⟨rfl, rfl, rfl, by decide +kernel, rfl, by decide +kernel, by decide +kernel⟩
abbrev nOver : List Str := ["derivation", "kind"]
abbrev pOver : List Str := ["derivation", "kind"]
theorem scOver : FnScope nOver pOver (defScope sOver) := ⟨rfl, rfl, rfl, by decide +kernel, rfl, by decide +kernel, by decide +kernel⟩
abbrev nUnder : List Str := ["derivation", "kind"]
abbrev pUnder : List Str := ["derivation", "kind"]
theorem scUnder : FnScope nUnder pUnder (defScope sUnder) := ⟨rfl, rfl, rfl, by decide +kernel, rfl, by decide +kernel, by decide +kernel⟩
abbrev nRaising : List Str := ["kind", "goal", "word"]
abbrev pRaising : List Str := ["kind", "goal", "word"]
theorem scRaising : FnScope nRaising pRaising (defScope sRaising) := ⟨rfl, rfl, rfl, by decide +kernel, rfl, by decide +kernel, by decide +kernel⟩
abbrev nComposedOver : List Str := ["given", "between", "behind"]
abbrev pComposedOver : List Str := ["given", "between", "behind"]
theorem scComposedOver : FnScope nComposedOver pComposedOver (defScope sComposedOver) := ⟨rfl, rfl, rfl, by decide +kernel, rfl, by decide +kernel, by decide +kernel⟩
abbrev nComposedUnder : List Str := ["ahead", "between", "given"]
abbrev pComposedUnder : List Str := ["ahead", "between", "given"]
theorem scComposedUnder : FnScope nComposedUnder pComposedUnder (defScope sComposedUnder) := ⟨rfl, rfl, rfl, by decide +kernel, rfl, by decide +kernel, by decide +kernel⟩
abbrev nComposing : List Str := ["one", "other"]
abbrev pComposing : List Str := ["one", "other"]
theorem scComposing : FnScope nComposing pComposing (defScope sComposing) := ⟨rfl, rfl, rfl, by decide +kernel, rfl, by decide +kernel, by decide +kernel⟩
abbrev nDividing : List Str := ["kind", "divisor"]
abbrev pDividing : List Str := ["kind", "divisor"]
theorem scDividing : FnScope nDividing pDividing (defScope sDividing) := ⟨rfl, rfl, rfl, by decide +kernel, rfl, by decide +kernel, by decide +kernel⟩
abbrev nSwapping : List Str := ["kind", "_", "ahead", "given", "behind", "used"]
abbrev pSwapping : List Str := ["kind"]
theorem scSwapping : FnScope nSwapping pSwapping (defScope sSwapping) := ⟨rfl, rfl, rfl, by decide +kernel, rfl, by decide +kernel, by decide +kernel⟩
abbrev nParting : List Str := ["kind", "_", "given", "first", "second", "both"]
abbrev pParting : List Str := ["kind"]
theorem scParting : FnScope nParting pParting (defScope sParting) := ⟨rfl, rfl, rfl, by decide +kernel, rfl, by decide +kernel, by decide +kernel⟩
abbrev nPacking : List Str := ["kind", "_", "given", "second", "first", "used"]
abbrev pPacking : List Str := ["kind"]
theorem scPacking : FnScope nPacking pPacking (defScope sPacking) := ⟨rfl, rfl, rfl, by decide +kernel, rfl, by decide +kernel, by decide +kernel⟩
abbrev nLPurse : List Str := ["script", "at", "seed"]
abbrev pLPurse : List Str := ["script", "at"]
theorem scLPurse : FnScope nLPurse pLPurse (defScope sLPurse) := ⟨rfl, rfl, rfl, by decide +kernel, rfl, by decide +kernel, by decide +kernel⟩
abbrev nLMixed : List Str := ["seed", "spin", "at", "mixed"]
abbrev pLMixed : List Str := ["seed", "spin", "at"]
theorem scLMixed : FnScope nLMixed pLMixed (defScope sLMixed) := ⟨rfl, rfl, rfl, by decide +kernel, rfl, by decide +kernel, by decide +kernel⟩
abbrev nLDraw : List Str := ["purse", "many", "drawn", "found", "piece"]
abbrev pLDraw : List Str := ["purse", "many"]
theorem scLDraw : FnScope nLDraw pLDraw (defScope sLDraw) := ⟨rfl, rfl, rfl, by decide +kernel, rfl, by decide +kernel, by decide +kernel⟩
abbrev nLOneOf : List Str := ["purse", "some"]
abbrev pLOneOf : List Str := ["purse", "some"]
theorem scLOneOf : FnScope nLOneOf pLOneOf (defScope sLOneOf) := ⟨rfl, rfl, rfl, by decide +kernel, rfl, by decide +kernel, by decide +kernel⟩
abbrev nLExact : List Str := ["mine", "theirs", "alike", "a", "b", "key"]
abbrev pLExact : List Str := ["mine", "theirs"]
theorem scLExact : FnScope nLExact pLExact (defScope sLExact) := ⟨rfl, rfl, rfl, by decide +kernel, rfl, by decide +kernel, by decide +kernel⟩
abbrev nLWord : List Str := ["purse", "size", "spin"]
abbrev pLWord : List Str := ["purse"]
theorem scLWord : FnScope nLWord pLWord (defScope sLWord) := ⟨rfl, rfl, rfl, by decide +kernel, rfl, by decide +kernel, by decide +kernel⟩
abbrev nLWords : List Str := ["purse", "many", "base", "near", "spot", "found", "spin", "word", "letter"]
abbrev pLWords : List Str := ["purse", "many"]
theorem scLWords : FnScope nLWords pLWords (defScope sLWords) := ⟨rfl, rfl, rfl, by decide +kernel, rfl, by decide +kernel, by decide +kernel⟩
abbrev nLIsVery : List Str := ["mine", "theirs", "is_same"]
abbrev pLIsVery : List Str := ["mine", "theirs"]
theorem scLIsVery : FnScope nLIsVery pLIsVery (defScope sLIsVery) := ⟨rfl, rfl, rfl, by decide +kernel, rfl, by decide +kernel, by decide +kernel⟩
abbrev nLKind : List Str := ["purse", "plains", "many", "signs", "first"]
abbrev pLKind : List Str := ["purse", "plains", "many", "signs"]
theorem scLKind : FnScope nLKind pLKind (defScope sLKind) := ⟨rfl, rfl, rfl, by decide +kernel, rfl, by decide +kernel, by decide +kernel⟩
abbrev nLSomeKind : List Str := ["purse", "plains", "most", "signs"]
abbrev pLSomeKind : List Str := ["purse", "plains", "most", "signs"]
theorem scLSomeKind : FnScope nLSomeKind pLSomeKind (defScope sLSomeKind) := ⟨rfl, rfl, rfl, by decide +kernel, rfl, by decide +kernel, by decide +kernel⟩
abbrev nLOddKinds : List Str := ["word", "odds"]
abbrev pLOddKinds : List Str := ["word"]
theorem scLOddKinds : FnScope nLOddKinds pLOddKinds (defScope sLOddKinds) := ⟨rfl, rfl, rfl, by decide +kernel, rfl, by decide +kernel, by decide +kernel⟩
abbrev nLNamed : List Str := ["door", "args"]
abbrev pLNamed : List Str := ["door", "args"]
theorem scLNamed : FnScope nLNamed pLNamed (defScope sLNamed) := ⟨rfl, rfl, rfl, by decide +kernel, rfl, by decide +kernel, by decide +kernel⟩
abbrev nLCases : List Str := ["a", "b", "c", "some", "left", "right", "bound", "apart"]
abbrev pLCases : List Str := ["a", "b", "c"]
theorem scLCases : FnScope nLCases pLCases (defScope sLCases) := ⟨rfl, rfl, rfl, by decide +kernel, rfl, by decide +kernel, by decide +kernel⟩
abbrev nLPlainSome : List Str := ["purse", "many", "found", "late"]
abbrev pLPlainSome : List Str := ["purse", "many"]
theorem scLPlainSome : FnScope nLPlainSome pLPlainSome (defScope sLPlainSome) := ⟨rfl, rfl, rfl, by decide +kernel, rfl, by decide +kernel, by decide +kernel⟩
abbrev nLByName : List Str := ["door", "args"]
abbrev pLByName : List Str := ["door", "args"]
theorem scLByName : FnScope nLByName pLByName (defScope sLByName) := ⟨rfl, rfl, rfl, by decide +kernel, rfl, by decide +kernel, by decide +kernel⟩
abbrev nLRaises : List Str := ["door", "args", "word", "value", "error"]
abbrev pLRaises : List Str := ["door", "args", "word", "value"]
theorem scLRaises : FnScope nLRaises pLRaises (defScope sLRaises) := ⟨rfl, rfl, rfl, by decide +kernel, rfl, by decide +kernel, by decide +kernel⟩
abbrev nLWordOf : List Str := ["error"]
abbrev pLWordOf : List Str := ["error"]
theorem scLWordOf : FnScope nLWordOf pLWordOf (defScope sLWordOf) := ⟨rfl, rfl, rfl, by decide +kernel, rfl, by decide +kernel, by decide +kernel⟩
abbrev nLKindsFall : List Str := ["word", "kind", "odd", "some", "door", "args"]
abbrev pLKindsFall : List Str := ["word", "kind"]
theorem scLKindsFall : FnScope nLKindsFall pLKindsFall (defScope sLKindsFall) := ⟨rfl, rfl, rfl, by decide +kernel, rfl, by decide +kernel, by decide +kernel⟩
abbrev nLShapesFall : List Str := ["a", "b", "c", "word", "other", "one", "late", "some"]
abbrev pLShapesFall : List Str := ["a", "b", "c", "word"]
theorem scLShapesFall : FnScope nLShapesFall pLShapesFall (defScope sLShapesFall) := ⟨rfl, rfl, rfl, by decide +kernel, rfl, by decide +kernel, by decide +kernel⟩
abbrev nLaw : List Str := ["script", "purse", "plains", "a", "b", "c", "again", "case", "place"]
abbrev pLaw : List Str := ["script"]
theorem scLaw : FnScope nLaw pLaw (defScope sLaw) := ⟨rfl, rfl, rfl, by decide +kernel, rfl, by decide +kernel, by decide +kernel⟩
/-- a def of the top, as it stands behind it -/
structure Top (K : Frag) (mg : Str → Option Value) (x : Str) (st : Stmt) (ps : List Str) (f : Addr) (fd : FuncData) : Prop where
  F : Fun K x x st f fd
  g : mg x = some (.ref f)
  b : Binds K fd ps []
/-- the built-in names that are asked for -/
structure Blt (mg : Str → Option Value) : Prop where
  sum : mg "sum" = none
  int : mg "int" = none
  max : mg "max" = none
  min : mg "min" = none
  len : mg "len" = none
  range : mg "range" = none
  isi : mg "isinstance" = none
  list : mg "list" = none
  dict : mg "dict" = none
  tuple : mg "tuple" = none
  all : mg "all" = none
  str_ : mg "str" = none
  bool_ : mg "bool" = none
  sorted : mg "sorted" = none
  set : mg "set" = none
  reversed : mg "reversed" = none
  zip : mg "zip" = none
  enumerate : mg "enumerate" = none
  any : mg "any" = none
end Q4

namespace Q4
open PySem PySem.Spec PyProof.Rows L2
open PySem.W (Frag)
open TL (joinL tl tl_join)
section
variable {X : Cx}
/-- i ** j of great numbers -/
theorem op_powB : OpR X (binaryOp .Pow) (rI (fun i j => 0 ≤ j ∧ (Builtin.Int.intBits i : Int) * j ≤ 2 ^ 27) fun i j => .int (i ^ j.toNat)) :=
  opI fun i j t u s Q E c q => PyProof.Rows.pow_int c.1 c.2 q
end
section
variable {P : Program} {w : World} {K : Frag} {mg : Str → Option Value} {base : Heap}
/-! ### draws -/
/-- a purse at a, of which at most n draws were made -/
def PurseAt (H : Hp) (a : Addr) (n : Nat) : Prop := ∃ p0 p1 p2 p3 : Int, H a = some (.lst [.int p0, .int p1, .int p2, .int p3]) ∧ 0 ≤ p0 ∧ 0 ≤ p1 ∧ p1 < 2147483629 ∧ 0 ≤ p2 ∧ p2 ≤ n ∧ 0 ≤ p3 ∧ p3 ≤ 63
def spMixed : Sp := fun vs H Q _ => ∃ seed spin at_ : Int, vs = [.int seed, .int spin, .int at_] ∧ 0 ≤ seed ∧ seed < 2147483629 ∧ 0 ≤ spin ∧ spin ≤ 1099511627776 ∧ 0 ≤ at_ ∧ at_ ≤ 63 ∧ ∀ m : Int, 0 ≤ m → m < 2147483587 → Q (.int m) H
theorem ok_mixed {f : Addr} {fd : FuncData} (T : Top K mg "_law_mixed" sLMixed ["seed", "spin", "at"] f fd) (B : Blt mg) : FnOk P w K mg base CX0 1 f fd ["seed", "spin", "at"] spMixed := by
  refine T.F.ok scLMixed (fun vs H Q E h => ?_) (fun cdv A outer s H vs Q E hr h => ?_)
  · obtain ⟨_, _, _, rfl, _⟩ := h
    rfl
  · obtain ⟨seed, spin, at_, rfl, h0, h1, h2, h3, h4, h5, k⟩ := h
    refine ⟨_, (pss_cons (ps_set (i := 3) scLMixed.nd rfl (Or.inl rfl) (pe_op op_add (pe_op op_mul (pv 0) pe_int) (pe_op op_mul (pe_op op_mul pe_int (pv 1)) (pv 1))))
      (pss_cons (ps_set (i := 3) scLMixed.nd rfl (Or.inl rfl) (pe_op op_mod (pe_callTy call_int1 (by rfl) B.int (by decide +kernel) (pa_cons (pe_op op_add (pe_op op_add (pv 3) (pe_op op_mul pe_int (pv 2))) (pv 1)) pa_nil)) pe_int))
      (pss_cons (ps_set (i := 3) scLMixed.nd rfl (Or.inl rfl) (pe_op op_mod (pe_callTy call_int1 (by rfl) B.int (by decide +kernel) (pa_cons (pe_op op_add (pe_op op_mul (pv 3) (pv 3)) pe_int) pa_nil)) pe_int))
      (pss_one (ps_ret (pe_op op_mod (pe_callTy call_int1 (by rfl) B.int (by decide +kernel) (pa_cons (pe_op op_mul (pv 3) pe_int) pa_nil)) pe_int)))))), ?_⟩
    refine ⟨_, rfl, _, _, rfl, rfl, .inl ⟨by omega, by omega⟩, _, rfl, _, _, rfl, rfl, .inl ⟨by decide, by decide⟩, _, rfl, _, _, rfl, rfl, .inr ⟨by omega, by omega⟩, _, _, rfl, rfl, ?_⟩
    refine ⟨_, rfl, _, rfl, _, _, rfl, rfl, .inl ⟨by decide, by decide⟩, _, _, rfl, rfl, _, rfl, _, _, rfl, rfl, .inl ⟨_, rfl, _, _, rfl, rfl, (by show (0 : Int) < 2147483647; decide), ?_⟩⟩
    generalize e1 : (seed * 69069 + 104729 * spin * spin + 7919 * at_ + spin) % 2147483647 = m1
    have b1 : 0 ≤ m1 ∧ m1 < 2147483647 := by omega
    refine ⟨_, rfl, _, rfl, _, _, rfl, rfl, .inl ⟨by omega, by omega⟩, _, _, rfl, rfl, .inl ⟨_, rfl, _, _, rfl, rfl, (by show (0 : Int) < 2147483629; decide), ?_⟩⟩
    generalize e2 : (m1 * m1 + 40503) % 2147483629 = m2
    have b2 : 0 ≤ m2 ∧ m2 < 2147483629 := by omega
    refine ⟨_, rfl, _, _, rfl, rfl, .inl ⟨by omega, by omega⟩, .inl ⟨_, rfl, _, _, rfl, rfl, (by show (0 : Int) < 2147483587; decide), ?_⟩⟩
    exact k _ (by omega) (by omega)
def spDraw : Sp := fun vs H Q _ => ∃ (a : Addr) (n : Nat) (many : Int), vs = [.ref a, .int many] ∧ PurseAt H a n ∧ n ≤ 1000000000000 ∧ 1 ≤ many ∧ many < 1048576 ∧
  ∀ (d : Int) (H' : Hp), 0 ≤ d → d < many → (∀ b, b ≠ a → H' b = H b) → PurseAt H' a (n + 1) → Q (.int d) H'
theorem bits_small {m : Int} (h1 : 1 ≤ m) (h2 : m < 1048576) : (1 : Int) + ((Builtin.Int.intBits m : Nat) : Int) / 28 = 1 := by
  have b : Builtin.Int.intBits m ≤ 20 := by
    unfold Builtin.Int.intBits
    split
    · omega
    · have e : m.natAbs < 2 ^ 20 := by
        have : (2 : Nat) ^ 20 = 1048576 := by decide
        omega
      have := (Nat.log2_lt (by omega)).mpr e
      omega
  omega
theorem ok_draw {f fm : Addr} {fd fdm : FuncData} (T : Top K mg "_law_draw" sLDraw ["purse", "many"] f fd) (TM : Top K mg "_law_mixed" sLMixed ["seed", "spin", "at"] fm fdm) (B : Blt mg) :
    FnOk P w K mg base CX0 2 f fd ["purse", "many"] spDraw := by
  have GM : FnOk P w K mg base CX0 1 fm fdm ["seed", "spin", "at"] spMixed := ok_mixed TM B
  refine T.F.ok scLDraw (fun vs H Q E h => ?_) (fun cdv A outer s H vs Q E hr h => ?_)
  · obtain ⟨_, _, _, rfl, _⟩ := h
    rfl
  · obtain ⟨a, n, many, rfl, ⟨p0, p1, p2, p3, hp, h0, h1, h1', h2, h2', h3, h3'⟩, hn, hm1, hm2, k⟩ := h
    refine ⟨_, (pss_cons (ps_if (pt_cmpR op_gt (pe_ix ix_list (pv 0) pe_int (fun _ _ => rfl)) pe_int (nomark _))
        (pss_cons (ps_set (i := 2) scLDraw.nd rfl (Or.inl rfl) (pe_op op_mod (pe_callTy call_int1 (by rfl) B.int (by decide +kernel) (pa_cons (pe_ix ix_list (pv 0) pe_int (fun _ _ => rfl)) pa_nil)) (pv 1)))
      (pss_cons (ps_asg (pe_op op_fdiv (pe_ix ix_list (pv 0) pe_int (fun _ _ => rfl)) (pv 1)) (pg_sub (pv 0) pe_int set_list))
      (pss_one (ps_ret (pv 2))))) pss_nil)
      (pss_cons (ps_set (i := 3) scLDraw.nd rfl (Or.inl rfl) pe_int)
      (pss_cons (ps_for PassesOwn.never rfl (pi_range1 (by rfl) B.range (pa_cons (pe_op op_add pe_int (pe_op op_fdiv (pe_bits (pv 1)) pe_int)) pa_nil)) (pg_name (i := 4) scLDraw.nd rfl (Or.inl rfl))
        (pss_cons (ps_asg (pe_op op_add (pe_ix ix_list (pv 0) pe_int (fun _ _ => rfl)) pe_int) (pg_sub (pv 0) pe_int set_list))
      (pss_one (ps_set (i := 3) scLDraw.nd rfl (Or.inl rfl) (pe_op op_add (pe_op op_mul (pv 3) pe_int) (pe_call GM hr rfl TM.g TM.F.kp TM.b .nil pass0 (pa_cons (pe_ix ix_list (pv 0) pe_int (fun _ _ => rfl)) (pa_cons (pe_ix ix_list (pv 0) pe_int (fun _ _ => rfl)) (pa_cons (pe_ix ix_list (pv 0) pe_int (fun _ _ => rfl)) pa_nil)))))))))
      (pss_one (ps_ret (pe_op op_mod (pe_callTy call_int1 (by rfl) B.int (by decide +kernel) (pa_cons (pv 3) pa_nil)) (pv 1))))))), ?_⟩
    refine ⟨_, rfl, _, _, _, _, rfl, rfl, SqL.of hp, atI_nat (j := 0) rfl, _, _, rfl, rfl, _, rfl, ite2 (fun c => ?_) (fun c => ?_)⟩
    · have c' : 0 < p0 := of_decide_eq_true c
      refine ⟨_, rfl, _, _, _, _, rfl, rfl, SqL.of hp, atI_nat (j := 0) rfl, .inl ⟨_, rfl, _, rfl, _, _, rfl, rfl, (by show 0 < many; omega), ?_⟩⟩
      refine ⟨_, rfl, _, _, _, _, rfl, rfl, SqL.of hp, atI_nat (j := 0) rfl, _, rfl, _, _, rfl, rfl, ⟨by omega, by omega⟩, _, rfl, _, _, _, 0, rfl, rfl, hp, rfl, _, rfl, ?_⟩
      refine k _ _ (Int.emod_nonneg _ (by omega)) (Int.emod_lt_of_pos _ (by omega)) (fun b hb => upd_ne hb) ⟨p0 / many, p1, p2, p3, upd_same, Int.ediv_nonneg h0 (by omega), h1, h1', h2, by omega, h3, h3'⟩
    · refine ⟨_, rfl, _, rfl, _, _, rfl, rfl, ⟨by decide, by decide⟩, _, _, rfl, rfl, _, rfl, ?_, ?_, ?_⟩
      · rw [bits_small hm1 hm2]
        decide
      · rw [bits_small hm1 hm2]
        decide
      rw [bits_small hm1 hm2]
      refine for_range (lo := 0) (n := 1) (fun i σ H' => ∃ (v2 v4 : Option V) (z : Int), σ = [some (.ref a), some (.int many), v2, some (.int z), v4] ∧ (i = 0 → z = 0 ∧ H' = H) ∧ (i = 1 → (∀ b, b ≠ a → H' b = H b) ∧ PurseAt H' a (n + 1)))
        ⟨_, _, 0, rfl, fun _ => ⟨rfl, rfl⟩, fun e => by cases e⟩ ?_ ?_
      · rintro i σ H' hi ⟨v2, v4, z, rfl, hz, _⟩
        obtain rfl : i = 0 := by omega
        obtain ⟨rfl, rfl⟩ := hz rfl
        refine ⟨_, rfl, _, _, _, _, rfl, rfl, SqL.of hp, atI_nat (j := 2) rfl, _, _, rfl, rfl, _, rfl, _, _, _, 2, rfl, rfl, hp, rfl, ?_⟩
        refine ⟨_, rfl, _, _, rfl, rfl, .inl ⟨by decide, by decide⟩, _, rfl, _, _, _, _, rfl, rfl, SqL.of upd_same, atI_nat (j := 1) rfl, _, rfl, _, _, _, _, rfl, rfl, SqL.of upd_same, atI_nat (j := 2) rfl, _, rfl, _, _, _, _, rfl, rfl, SqL.of upd_same, atI_nat (j := 3) rfl, ?_⟩
        refine ⟨_, _, _, rfl, h1, h1', by omega, by omega, h3, h3', fun m m0 m1 => ⟨_, _, rfl, rfl, ?_⟩⟩
        exact ⟨_, _, _, rfl, (fun e => by cases e), fun _ => ⟨fun b hb => upd_ne hb, p0, p1, p2 + 1, p3, upd_same, h0, h1, h1', by omega, by omega, h3, h3'⟩⟩
      · rintro σ H' ⟨v2, v4, z, rfl, _, hz⟩
        obtain ⟨z1, z2⟩ := hz rfl
        exact ⟨_, rfl, .inl ⟨_, rfl, _, rfl, _, _, rfl, rfl, (by show 0 < many; omega), k _ _ (Int.emod_nonneg _ (by omega)) (Int.emod_lt_of_pos _ (by omega)) z1 z2⟩⟩
/-! ### purses -/
theorem cut_ints (ns : List Int) (lo hi : Option Int) : ∃ ms : List Int, cutV (ns.map V.int) lo hi = ms.map V.int := by
  unfold cutV
  exact ⟨_, by rw [List.map_take, List.map_drop]⟩
def spPurse (K : Frag) : Sp := fun vs H Q _ => ∃ (a : Addr) (ns : List Int) (i : Int), vs = [.ref a, .int i] ∧ SqL K H a (ns.map V.int) ∧ 0 ≤ i ∧ i ≤ 63 ∧ ∀ (p : Addr) (H' : Hp), Same H H' → H p = none → PurseAt H' p 0 → Q (.ref p) H'
theorem same_upd {H : Hp} {p : Addr} {o : HO} (h : H p = none) : Same H (upd H p o) := fun b u e => by
  rw [upd_ne (ne_of_none e h)]
  exact e
theorem ok_purse {f : Addr} {fd : FuncData} (T : Top K mg "_law_purse" sLPurse ["script", "at"] f fd) (B : Blt mg) : FnOk P w K mg base CX0 1 f fd ["script", "at"] (spPurse K) := by
  refine T.F.ok scLPurse (fun vs H Q E h => ?_) (fun cdv A outer s H vs Q E hr h => ?_)
  · obtain ⟨_, _, _, rfl, _⟩ := h
    rfl
  · obtain ⟨a, ns, i, rfl, hS, i0, i1, k⟩ := h
    refine ⟨_, (pss_cons (ps_set (i := 2) scLPurse.nd rfl (Or.inl rfl) (pe_callB (cr_sum rfl) (by rfl) B.sum (by decide +kernel) (pa_cons (pe_slice sl_list (pv 0) (po_some (pv 1)) (po_some (pe_op op_add (pv 1) pe_int))) pa_nil)))
      (pss_one (ps_ret (pe_lst (pa_cons (pe_op op_mod (pe_callTy call_int1 (by rfl) B.int (by decide +kernel) (pa_cons (pe_callB (call_max2 rfl) (by rfl) B.max (by decide +kernel) (pa_cons (pe_op op_sub (pv 2) (pe_op op_pow pe_int pe_int)) (pa_cons pe_int pa_nil))) pa_nil)) (pe_op op_powB (pe_op op_pow pe_int pe_int) pe_int)) (pa_cons (pe_op op_mod (pe_callTy call_int1 (by rfl) B.int (by decide +kernel) (pa_cons (pv 2) pa_nil)) pe_int) (pa_cons pe_int (pa_cons (pv 1) pa_nil)))))))), ?_⟩
    obtain ⟨ms, em⟩ := cut_ints ns (some i) (some (i + 1))
    refine ⟨_, rfl, _, rfl, i, rfl, _, rfl, _, _, rfl, rfl, i + 1, rfl, a, _, rfl, hS, fun q hq => ⟨q, ms, rfl, ?_, ?_⟩⟩
    · rw [em]
      exact SqL.of upd_same
    · refine ⟨_, rfl, _, _, rfl, rfl, ⟨by decide, by decide, by decide⟩, _, _, rfl, rfl, _, _, rfl, .inl ⟨_, rfl, _, _, rfl, rfl, ⟨by decide, by decide, by decide⟩, _, _, rfl, rfl, ⟨by decide, by decide +kernel⟩, _, _, rfl, rfl, (show (0 : Int) < (10 ^ (60 : Int).toNat) ^ (8 : Int).toNat by decide +kernel), ?_⟩⟩
      refine ⟨_, rfl, .inl ⟨_, rfl, _, _, rfl, rfl, (by show (0 : Int) < 2147483629; decide), _, rfl, (by show 4 ≤ sizeLine; decide), fun p hp => ?_⟩⟩
      have hp0 : H p = none := (same_upd hq).free hp
      refine k p _ ((same_upd hq).trans (same_upd hp)) hp0 ⟨_, _, 0, i, upd_same, Int.emod_nonneg _ (by decide +kernel), Int.emod_nonneg _ (by decide), Int.emod_lt_of_pos _ (by decide), Int.le_refl _, Int.le_refl _, i0, i1⟩
def spPurses (K : Frag) : Sp := fun vs H Q _ => ∃ (a : Addr) (ns : List Int), vs = [.ref a, .int 1] ∧ SqL K H a (ns.map V.int) ∧
  ∀ (L p : Addr) (H' : Hp), Same H H' → H L = none → H p = none → L ≠ p → H' L = some (.lst [.ref p]) → PurseAt H' p 0 → Q (.ref L) H'
/-! ### what is drawn -/
def spOneOf : Sp := fun vs H Q _ => ∃ (a L : Addr) (n : Nat) (xs : List V), vs = [.ref a, .ref L] ∧ PurseAt H a n ∧ n ≤ 1000000000000 ∧ L ≠ a ∧ H L = some (.lst xs) ∧ 1 ≤ xs.length ∧ xs.length < 1048576 ∧
  ∀ (i : Nat) (x : V) (H' : Hp), xs[i]? = some x → (∀ b, b ≠ a → H' b = H b) → PurseAt H' a (n + 1) → Q x H'
theorem ok_oneOf {f fd_ fm : Addr} {fd fdd fdm : FuncData} (T : Top K mg "_law_one_of" sLOneOf ["purse", "some"] f fd) (TD : Top K mg "_law_draw" sLDraw ["purse", "many"] fd_ fdd)
    (TM : Top K mg "_law_mixed" sLMixed ["seed", "spin", "at"] fm fdm) (B : Blt mg) : FnOk P w K mg base CX0 3 f fd ["purse", "some"] spOneOf := by
  have GD : FnOk P w K mg base CX0 2 fd_ fdd ["purse", "many"] spDraw := ok_draw TD TM B
  refine T.F.ok scLOneOf (fun vs H Q E h => ?_) (fun cdv A outer s H vs Q E hr h => ?_)
  · obtain ⟨_, _, _, _, rfl, _⟩ := h
    rfl
  · obtain ⟨a, L, n, xs, rfl, hp, hn, nLa, hL, h1, h2, k⟩ := h
    refine ⟨_, pss_one (ps_ret (pe_ix ix_list (pv 1) (pe_call GD hr rfl TD.g TD.F.kp TD.b .nil pass0 (pa_cons (pv 0) (pa_cons (pe_callB call_len_seq (by rfl) B.len PySem.boot_len (pa_cons (pv 1) pa_nil)) pa_nil))) (fun _ _ => rfl))), ?_⟩
    refine ⟨_, rfl, _, rfl, _, rfl, L, _, rfl, .inl (SqL.of hL), a, n, _, rfl, hp, hn, by omega, by omega, fun d H' d0 d1 off hp' => ?_⟩
    obtain ⟨j, rfl⟩ := Int.eq_ofNat_of_zero_le d0
    have hj : j < xs.length := by omega
    refine ⟨L, xs, _, xs[j], rfl, rfl, SqL.of (by rw [off L nLa]; exact hL), atI_nat (by simp [hj]), ?_⟩
    exact k j _ H' (by simp [hj]) off hp'
/-- a word: one to eight letters -/
def IsW (z : Str) : Prop := 1 ≤ z.length ∧ z.length ≤ 8 ∧ ∀ c ∈ z.cps.toList, 97 ≤ c ∧ c ≤ 122
def abc : Str := "abcdefghijklmnopqrstuvwxyz"
theorem abc_at : ∀ j : Nat, j < 26 → abc.cps.toList[j]? = some (97 + j) := by decide +kernel
/-- the heap is kept but at a -/
def KeepBut (a : Addr) (H H' : Hp) : Prop := ∀ b o, H b = some o → b ≠ a → H' b = some o
theorem KeepBut.refl (a : Addr) (H : Hp) : KeepBut a H H := fun _ _ e _ => e
theorem KeepBut.trans {a : Addr} {H H1 H2 : Hp} (h : KeepBut a H H1) (h' : KeepBut a H1 H2) : KeepBut a H H2 := fun b o e n => h' b o (h b o e n) n
theorem KeepBut.of_same {a : Addr} {H H' : Hp} (h : Same H H') : KeepBut a H H' := fun b o e _ => h b o e
theorem KeepBut.of_off {a : Addr} {H H' : Hp} (h : ∀ b, b ≠ a → H' b = H b) : KeepBut a H H' := fun b o e n => by rw [h b n]; exact e
theorem KeepBut.free {a b : Addr} {H H' : Hp} (h : KeepBut a H H') (n : H' b = none) (hb : b ≠ a) : H b = none := by
  cases e : H b with
  | none => rfl
  | some o =>
    rw [h b o e hb] at n
    cases n
def spWord : Sp := fun vs H Q _ => ∃ (a : Addr) (n : Nat), vs = [.ref a] ∧ PurseAt H a n ∧ n ≤ 900000000000 ∧ ∀ (z : Str) (H' : Hp), IsW z → KeepBut a H H' → PurseAt H' a (n + 10) → Q (.str z) H'
theorem join_signs : ∀ cs : List Nat, joinL [] (cs.map fun c => [c]) = cs
  | [] => rfl
  | [c] => rfl
  | c :: d :: r => by
    show [c] ++ ([] ++ joinL [] ((d :: r).map fun c => [c])) = c :: d :: r
    rw [join_signs (d :: r)]
    rfl
theorem word_of (cs : List Nat) : (Txt.join ("" : Str) (cs.map fun c => (⟨#[c]⟩ : Str))).cps.toList = cs := by
  rw [TL.join_eq]
  show tl (Str.join "" (cs.map fun c => (⟨#[c]⟩ : Str))) = cs
  rw [tl_join, List.map_map]
  exact join_signs cs
theorem isW_of {cs : List Nat} (h1 : 1 ≤ cs.length) (h2 : cs.length ≤ 8) (h : ∀ c ∈ cs, 97 ≤ c ∧ c ≤ 122) : IsW (Txt.join ("" : Str) (cs.map fun c => (⟨#[c]⟩ : Str))) := by
  have e := word_of cs
  have l : (Txt.join ("" : Str) (cs.map fun c => (⟨#[c]⟩ : Str))).length = cs.length := by
    rw [← congrArg List.length e]
    exact Array.length_toList.symm
  exact ⟨by omega, by omega, by rw [e]; exact h⟩
theorem sum_ones : ∀ cs : List Nat, ((cs.map fun c => (⟨#[c]⟩ : Str)).map (·.length)).sum = cs.length
  | [] => rfl
  | c :: r => by
    show 1 + ((r.map fun c => (⟨#[c]⟩ : Str)).map (·.length)).sum = r.length + 1
    rw [sum_ones r]
    omega
theorem ok_word {f fd_ fm : Addr} {fd fdd fdm : FuncData} (T : Top K mg "_law_word" sLWord ["purse"] f fd) (TD : Top K mg "_law_draw" sLDraw ["purse", "many"] fd_ fdd)
    (TM : Top K mg "_law_mixed" sLMixed ["seed", "spin", "at"] fm fdm) (B : Blt mg) : FnOk P w K mg base CX0 3 f fd ["purse"] spWord := by
  have GD : FnOk P w K mg base CX0 2 fd_ fdd ["purse", "many"] spDraw := ok_draw TD TM B
  refine T.F.ok scLWord (fun vs H Q E h => ?_) (fun cdv A outer s H vs Q E hr h => ?_)
  · obtain ⟨_, _, rfl, _⟩ := h
    rfl
  · obtain ⟨a, n, rfl, hp, hn, k⟩ := h
    refine ⟨_, (pss_cons (ps_set (i := 1) scLWord.nd rfl (Or.inl rfl) (pe_op op_add pe_int (pe_call GD hr rfl TD.g TD.F.kp TD.b .nil pass0 (pa_cons (pv 0) (pa_cons (pe_ifExp (pt_cmpR op_eq (pe_call GD hr rfl TD.g TD.F.kp TD.b .nil pass0 (pa_cons (pv 0) (pa_cons pe_int pa_nil))) pe_int (nomark _)) pe_int pe_int) pa_nil)))))
      (pss_one (ps_ret (pe_join pe_str (pe_lc (own := [("spin", 2)]) (g := gName 2) (tt := tYes) rfl scLWord.nd (pi_range1 (by rfl) B.range (pa_cons (pv 1) pa_nil))
        (blkOk_by (N := ["purse", "size", "spin"]) (sc := defScope sLWord) (by decide +kernel)) (fun _ _ _ _ _ => pg_name (i := 2) scLWord.nd rfl (Or.inl rfl)) (fun _ _ _ _ _ => pts_nil)
        (fun _ _ _ _ _ => pe_ix ix_str pe_str (pe_call GD hr rfl TD.g TD.F.kp TD.b .nil pass0 (pa_cons (pv 0) (pa_cons pe_int pa_nil))) (fun _ _ => rfl))))))), ?_⟩
    refine ⟨_, rfl, _, rfl, a, n, _, rfl, hp, by omega, by decide, by decide, fun d1 H1 c0 c1 off1 hp1 => ⟨rfl, _, rfl, ?_⟩⟩
    refine ite2 (fun _ => ?_) (fun _ => ?_)
    all_goals
      refine ⟨a, n + 1, _, rfl, hp1, by omega, by decide, by decide, fun d2 H2 e0 e1 off2 hp2 => ?_⟩
      have e8 : d2 < 8 := by omega
      have kb : KeepBut a H H2 := (KeepBut.of_off off1).trans (.of_off off2)
      refine ⟨_, _, rfl, rfl, ⟨_, rfl⟩, _, rfl, _, rfl, by omega, by omega, fun D hD => ?_⟩
      have nDa : D ≠ a := by
        obtain ⟨_, _, _, _, e, _⟩ := hp2
        exact (ne_of_none e hD).symm
      refine lc_range (lo := 0) (n := (1 + d2).toNat) (fun i H' => KeepBut a H H' ∧ PurseAt H' a (n + 2 + i) ∧ ∃ cs : List Nat, H' D = some (.lst (cs.map fun c => V.str ⟨#[c]⟩)) ∧ cs.length = i ∧ ∀ c ∈ cs, 97 ≤ c ∧ c ≤ 122)
        ⟨fun b o q hb => ?_, ?_, [], upd_same, rfl, fun c hc => nomatch hc⟩ ?_ ?_
      · rw [upd_ne (ne_of_none (kb b o q hb) hD)]
        exact kb b o q hb
      · obtain ⟨p0, p1, p2, p3, q, r⟩ := hp2
        exact ⟨p0, p1, p2, p3, by rw [upd_ne nDa.symm]; exact q, r⟩
      · rintro i H' hi ⟨kb', hp', cs, eD, el, hc⟩
        have hi8 : i < 8 := by omega
        refine ⟨rfl, _, rfl, a, n + 2 + i, 26, rfl, hp', by omega, by decide, by decide, fun d3 H3 g0 g1 off3 hp3 => ?_⟩
        obtain ⟨j, rfl⟩ := Int.eq_ofNat_of_zero_le g0
        have hj : j < 26 := by omega
        refine ⟨abc, _, _, rfl, rfl, by decide, atI_nat (abc_at j hj), _, (by rw [off3 D nDa]; exact eD), ?_, ?_, ?_, cs ++ [97 + j], ?_, ?_, ?_⟩
        · rw [List.length_map, sizeLine_eq]
          omega
        · intro b o q hb
          have q1 : H3 b = some o := by
            rw [off3 b hb]
            exact kb' b o q hb
          rw [upd_ne ?_]
          · exact q1
          · rintro rfl
            have q2 := kb b o q hb
            rw [hD] at q2
            cases q2
        · obtain ⟨p0, p1, p2, p3, q, r⟩ := hp3
          exact ⟨p0, p1, p2, p3, by rw [upd_ne nDa.symm]; exact q, r⟩
        · rw [upd_same, List.map_append]
          rfl
        · rw [List.length_append, el]
          rfl
        · intro c hc'
          rcases List.mem_append.mp hc' with q | q
          · exact hc c q
          · have q' := List.mem_singleton.mp q
            omega
      · rintro H' ⟨kb', hp', cs, eD, el, hc⟩
        have hl : cs.length = (1 + d2).toNat := el
        refine ⟨_, D, cs.map fun c => (⟨#[c]⟩ : Str), rfl, rfl, .inl (SqL.of (by rw [eD, List.map_map]; rfl)), ?_, ?_⟩
        · rw [sum_ones, List.length_map]
          show cs.length + cs.length * 0 ≤ 16777216
          omega
        · refine k _ H' (isW_of (by omega) (by omega) hc) kb' ?_
          obtain ⟨p0, p1, p2, p3, q, r1, r2, r3, r4, r5, r6⟩ := hp'
          exact ⟨p0, p1, p2, p3, q, r1, r2, r3, r4, by omega, r6⟩
end
end Q4

namespace Q4
open PySem PySem.Spec PyProof.Rows L2
open PySem.W (Frag)
/-! ### types as data -/
inductive Sg | ov | th | un
  deriving DecidableEq
def Sg.str : Sg → Str
  | .ov => "over"
  | .th => "then"
  | .un => "under"
inductive Ty | w (z : Str) | n (g : Sg) (a b : Ty)
  deriving DecidableEq
inductive TyAt (H : Hp) : V → Ty → Prop
  | w {z : Str} : IsW z → TyAt H (.str z) (.w z)
  | n {p : Addr} {g : Sg} {x y : V} {a b : Ty} : H p = some (.tup [.str g.str, x, y]) → TyAt H x a → TyAt H y b → TyAt H (.ref p) (.n g a b)
/-- what is laid as a tuple stays -/
def TK (H H' : Hp) : Prop := ∀ p xs, H p = some (.tup xs) → H' p = some (.tup xs)
theorem TK.refl (H : Hp) : TK H H := fun _ _ e => e
theorem TK.trans {H H1 H2 : Hp} (h : TK H H1) (h' : TK H1 H2) : TK H H2 := fun p xs e => h' p xs (h p xs e)
theorem TK.of_same {H H' : Hp} (h : Same H H') : TK H H' := fun p xs e => h p _ e
theorem TK.upd_new {H : Hp} {a : Addr} {o : HO} (h : H a = none) : TK H (upd H a o) := TK.of_same (same_upd h)
theorem TK.upd_lst {H : Hp} {a : Addr} {xs ys : List V} (h : H a = some (.lst xs)) : TK H (upd H a (.lst ys)) := fun p zs e => by
  by_cases c : p = a
  · rw [c, h] at e
    cases e
  · rw [upd_ne c]
    exact e
theorem TyAt.mono {H H' : Hp} (k : TK H H') {v : V} {t : Ty} (h : TyAt H v t) : TyAt H' v t := by
  induction h with
  | w h => exact .w h
  | n e _ _ i1 i2 => exact .n (k _ _ e) i1 i2
def Ty.signs : Ty → Nat
  | .w _ => 0
  | .n _ a b => 1 + a.signs + b.signs
def Ty.size : Ty → Nat
  | .w _ => 1
  | .n _ a b => 1 + a.size + b.size
theorem Ty.size_signs (t : Ty) : t.size = 2 * t.signs + 1 := by
  induction t with
  | w _ => rfl
  | n g a b i j => simp only [Ty.size, Ty.signs]; omega
/-- the written names of the modules -/
structure Gbl (K : Frag) (mg : Str → Option Value) : Prop where
  letters : ∃ t, mg "_LETTERS" = some (.str abc t)
  signs : ∃ a, mg "_SIGNS" = some (.ref a) ∧ SqT K (fun _ => none) a [.str "over", .str "then", .str "under"]
theorem sqT_any {K : Frag} {a : Addr} {xs : List V} {H : Hp} (h : SqT K (fun _ => none) a xs) : SqT K H a xs := by
  rcases h with h | h
  · rcases h with h | ⟨o, h⟩
    · cases h
    · cases h
  · exact .inr h
section
variable {P : Program} {w : World} {K : Frag} {mg : Str → Option Value} {base : Heap}
/-! ### words -/
def spIsWord : Sp := fun vs H Q _ => ∃ z, vs = [.str z] ∧ IsW z ∧ ∀ H', Same H H' → Q (.bl true) H'
theorem abc_mem {c : Nat} (h1 : 97 ≤ c) (h2 : c ≤ 122) : c ∈ abc.cps.toList := by
  obtain ⟨j, rfl⟩ : ∃ j, c = 97 + j := ⟨c - 97, by omega⟩
  exact List.mem_of_getElem? (abc_at j (by omega))
theorem ok_isWord {f : Addr} {fd : FuncData} (T : Top K mg "is_word" sIsWord pIsWord f fd) (B : Blt mg) (G : Gbl K mg) : FnOk P w K mg base CX0 1 f fd pIsWord spIsWord := by
  obtain ⟨tl, gl⟩ := G.letters
  refine T.F.ok scIsWord (fun vs H Q E h => ?_) (fun cdv A outer s H vs Q E hr h => ?_)
  · obtain ⟨_, rfl, _⟩ := h
    rfl
  · obtain ⟨z, rfl, ⟨z1, z2, z3⟩, k⟩ := h
    refine ⟨_, (pss_cons (ps_if (PW.pt (pw_or (pt_not (pt_val (pe_callB call_isi (by rfl) B.isi (by decide +kernel) (pa_cons (pv 0) (pa_cons (pe_bltn (v := .ty "str") (by rfl) B.str_ (by decide +kernel) rfl) pa_nil))))) (pw_or1 (pt_not (pt_chain op_le op_le pe_int (pe_callB call_len_str (by rfl) B.len PySem.boot_len (pa_cons (pv 0) pa_nil)) pe_int))))) (pss_one (ps_ret pe_bl)) pss_nil)
      (pss_one (ps_ret (pe_callB (cr_all rfl) (by rfl) B.all (by decide +kernel) (pa_cons (pe_lc (own := [("letter", 1)]) (g := gName 1) (tt := tYes) rfl scIsWord.nd (pi_str (pv 0)) (blkOk_by (N := nIsWord) (sc := defScope sIsWord) (by decide +kernel)) (fun _ _ _ _ _ => pg_name (i := 1) scIsWord.nd rfl (Or.inl rfl)) (fun _ _ _ _ _ => pts_nil) (fun _ _ _ _ _ => (pe_cmpR op_in_sign (pv 1) (pe_glob (v := .str abc) rfl gl ⟨tl, rfl⟩) (by rfl)))) pa_nil))))), ?_⟩
    refine ⟨_, rfl, _, _, _, _, true, rfl, .ty "str", .base (.str z), kit_ty (by decide +kernel), true, rfl, iteF ?_⟩
    refine ⟨_, rfl, _, rfl, by rw [sizeLine_eq]; omega, _, _, rfl, rfl, true, congrArg V.bl (decide_eq_true (by omega)), iteT ⟨_, _, rfl, rfl, true, congrArg V.bl (decide_eq_true (by omega)), iteF ?_⟩⟩
    refine ⟨_, rfl, _, rfl, fun D hD => ?_⟩
    refine lc_it walk_str (fun i H' => H' = upd H D (.lst (List.replicate i (.bl true)))) rfl (fun _ _ _ _ => trivial) ?_ ?_
    · rintro i x H' H2 hi rfl ⟨rfl, c, hc, rfl⟩
      have hm : c ∈ z.cps.toList := Array.mem_toList_iff.mpr (Array.mem_of_getElem? hc)
      refine ⟨rfl, _, rfl, c, abc, rfl, rfl, _, upd_same, ?_, ?_⟩
      · rw [List.length_replicate, sizeLine_eq]
        have : z.cps.size ≤ 8 := z2
        omega
      · rw [upd_upd, decide_eq_true (abc_mem (z3 c hm).1 (z3 c hm).2), ← List.replicate_succ']
    · rintro H' rfl
      refine ⟨_, List.replicate z.cps.size true, rfl, SqL.of (by rw [upd_same, List.map_replicate]), ?_⟩
      have e : (List.replicate z.cps.size true).all id = true := by
        rw [List.all_eq_true]
        intro b hb
        exact (List.mem_replicate.mp hb).2
      rw [e]
      exact k _ (same_upd hD)
/-! ### signs -/
def Ty.node : Ty → Bool
  | .w _ => false
  | .n _ _ _ => true
def spIsSigned : Sp := fun vs H Q _ => ∃ v t, vs = [v] ∧ TyAt H v t ∧ Q (.bl t.node) H
theorem ok_isSigned {f : Addr} {fd : FuncData} (T : Top K mg "_is_signed" sIsSigned pIsSigned f fd) (B : Blt mg) (G : Gbl K mg) : FnOk P w K mg base CX0 1 f fd pIsSigned spIsSigned := by
  obtain ⟨sa, gs, hs⟩ := G.signs
  refine T.F.ok scIsSigned (fun vs H Q E h => ?_) (fun cdv A outer s H vs Q E hr h => ?_)
  · obtain ⟨_, _, rfl, _⟩ := h
    rfl
  · obtain ⟨v, t, rfl, ht, k⟩ := h
    refine ⟨_, pss_one (ps_ret (pe_and (pe_callB call_isi (by rfl) B.isi (by decide +kernel) (pa_cons (pv 0) (pa_cons (pe_bltn (v := .ty "tuple") (by rfl) B.tuple (by decide +kernel) rfl) pa_nil))) (pe_and (pe_cmpR op_eq (pe_callB call_len_seq (by rfl) B.len PySem.boot_len (pa_cons (pv 0) pa_nil)) pe_int (nomark _)) (pe_one (pe_cmpR op_in_seq (pe_ix ix_tup (pv 0) pe_int (fun _ _ => rfl)) (pe_glob (v := .ref sa) rfl gs rfl) (by rfl)))))), ?_⟩
    cases ht with
    | @w z h => exact ⟨_, rfl, _, _, _, _, false, rfl, .ty "tuple", .base (.str z), kit_ty (by decide +kernel), false, rfl, k⟩
    | @n p g x y a b e h1 h2 =>
      refine ⟨_, rfl, _, _, _, _, true, rfl, .ty "tuple", .base (.tup e), kit_ty (by decide +kernel), true, rfl, ?_⟩
      refine ⟨_, rfl, p, _, rfl, .inr (SqT.of e), rfl, true, rfl, ?_⟩
      refine ⟨_, rfl, p, _, _, _, rfl, rfl, SqT.of e, atI_nat (j := 0) rfl, sa, _, rfl, .inr (sqT_any hs), rfl, rfl, ?_⟩
      cases g <;> exact k
end
end Q4

namespace Q4
open PySem PySem.Spec PyProof.Rows L2
open PySem.W (Frag)
/-- a list of types -/
inductive Tys (H : Hp) : List V → List Ty → Prop
  | nil : Tys H [] []
  | cons {v : V} {t : Ty} {vs : List V} {ts : List Ty} : TyAt H v t → Tys H vs ts → Tys H (v :: vs) (t :: ts)
theorem Tys.mono {H H' : Hp} (k : TK H H') {vs : List V} {ts : List Ty} (h : Tys H vs ts) : Tys H' vs ts := by
  induction h with
  | nil => exact .nil
  | cons h _ ih => exact .cons (h.mono k) ih
theorem Tys.length {H : Hp} {vs : List V} {ts : List Ty} (h : Tys H vs ts) : vs.length = ts.length := by
  induction h with
  | nil => rfl
  | cons _ _ ih => simp [ih]
theorem Tys.append {H : Hp} {vs us : List V} {ts rs : List Ty} (h : Tys H vs ts) (h' : Tys H us rs) : Tys H (vs ++ us) (ts ++ rs) := by
  induction h with
  | nil => exact h'
  | cons h _ ih => exact .cons h ih
theorem Tys.at_ {H : Hp} {vs : List V} {ts : List Ty} (h : Tys H vs ts) : ∀ {i : Nat} {v : V}, vs[i]? = some v → ∃ t, ts[i]? = some t ∧ TyAt H v t := by
  induction h with
  | nil => intro i v e; simp at e
  | cons h _ ih =>
    intro i v e
    cases i with
    | zero =>
      simp at e
      subst e
      exact ⟨_, rfl, h⟩
    | succ i => exact ih (by simpa using e)
def sizes : List Ty → Nat
  | [] => 0
  | t :: r => t.size + sizes r
theorem Ty.size_pos (t : Ty) : 1 ≤ t.size := by
  cases t <;> simp [Ty.size]; omega
theorem sizes_len : ∀ ts : List Ty, ts.length ≤ sizes ts
  | [] => Nat.le_refl _
  | t :: r => by
    have := sizes_len r
    have := t.size_pos
    simp only [List.length_cons, sizes]
    omega
theorem same_over {H0 H : Hp} {W : Addr} {o : HO} (s : Same H0 H) (n : H0 W = none) : Same H0 (upd H W o) := fun b u e => by
  rw [upd_ne (ne_of_none e n)]
  exact s b u e
/-- the parts of a type, as nodes go through them -/
def Ty.parts : Ty → List Ty
  | .w _ => []
  | .n _ a b => [a, b]
theorem cut_not : ¬ (HT.sIx 3 0 (some 1) = 0 ∧ HT.sIx 3 3 none = 3) := by decide +kernel
section
variable {P : Program} {w : World} {K : Frag} {mg : Str → Option Value} {base : Heap}
def spIsKind : Sp := fun vs H Q _ => ∃ v t, vs = [v] ∧ TyAt H v t ∧ t.size ≤ 1000000 ∧ ∀ H', Same H H' → Q (.bl true) H'
theorem ok_isKind {f fs fw : Addr} {fd fds fdw : FuncData} (T : Top K mg "is_kind" sIsKind pIsKind f fd) (TS : Top K mg "_is_signed" sIsSigned pIsSigned fs fds) (TW : Top K mg "is_word" sIsWord pIsWord fw fdw) (B : Blt mg) (G : Gbl K mg) :
    FnOk P w K mg base CX0 2 f fd pIsKind spIsKind := by
  have GS : FnOk P w K mg base CX0 1 fs fds pIsSigned spIsSigned := ok_isSigned TS B G
  have GW : FnOk P w K mg base CX0 1 fw fdw pIsWord spIsWord := ok_isWord TW B G
  refine T.F.ok scIsKind (fun vs H Q E h => ?_) (fun cdv A outer s H vs Q E hr h => ?_)
  · obtain ⟨_, _, rfl, _⟩ := h
    rfl
  · obtain ⟨v, t, rfl, ht, hz, k⟩ := h
    refine ⟨_, (pss_cons (ps_set (i := 1) scIsKind.nd rfl (Or.inl rfl) (pe_lst (pa_cons (pv 0) pa_nil)))
      (pss_cons (ps_while PassesOwn.never (pt_truth (pv 1) (by intro _; rfl))
        (pss_cons (ps_set (i := 2) scIsKind.nd rfl (Or.inl rfl) (pe_bm0 PySem.F.plainAttrs_list PySem.F.slot_list_pop PySem.F.type_list_pop mt_pop (pv 1)))
      (pss_one (ps_if (pt_val (pe_call GS hr rfl TS.g TS.F.kp TS.b .nil pass0 (pa_cons (pv 2) pa_nil))) (pss_one (ps_expr (pe_bm PySem.F.plainAttrs_list PySem.F.slot_list_extend PySem.F.type_list_extend KT.mt_extT (pv 1) (pa_cons (pe_slice sl_tup (pv 2) (po_some pe_int) po_none) pa_nil))))
            (pss_one (ps_if (pt_not (pt_val (pe_call GW hr rfl TW.g TW.F.kp TW.b .nil pass0 (pa_cons (pv 2) pa_nil)))) (pss_one (ps_ret pe_bl)) pss_nil))))))
      (pss_one (ps_ret pe_bl)))), ?_⟩
    refine ⟨v, rfl, by show 1 ≤ sizeLine; rw [sizeLine_eq]; omega, fun W hW => ?_⟩
    refine ⟨fun m σ H' => ∃ (vs : List V) (ts : List Ty) (v2 : Option V), σ = [some v, some (.ref W), v2] ∧ H' W = some (.lst vs.reverse) ∧ Tys H' vs ts ∧ sizes ts = m ∧ m ≤ 1000000 ∧ Same H H', ⟨t.size, [v], [t], none, rfl, upd_same, .cons (ht.mono (TK.upd_new hW)) .nil, rfl, hz, same_upd hW⟩, ?_⟩
    rintro m σ H1 ⟨vs, ts, v2, rfl, hL, hT, rfl, hm, hs⟩
    refine ⟨_, rfl, _, .inl ⟨_, SqL.of hL, rfl⟩, ?_⟩
    cases hT with
    | nil => exact iteF (k H1 hs)
    | @cons y u vs ts h1 h2 =>
      have el : (y :: vs).reverse = vs.reverse ++ [y] := List.reverse_cons
      have c : (!(y :: vs).reverse.isEmpty) = true := by rw [el]; simp
      rw [c]
      refine iteT ⟨fun σ' H' => ∃ m' < sizes (u :: ts), ∃ (vs : List V) (ts : List Ty) (v2 : Option V), σ' = [some v, some (.ref W), v2] ∧ H' W = some (.lst vs.reverse) ∧ Tys H' vs ts ∧ sizes ts = m' ∧ m' ≤ 1000000 ∧ Same H H', fun σ' H' q => q, ?_⟩
      refine ⟨_, rfl, .inl ⟨rfl, _, SqL.of hL⟩, W, _, y, rfl, rfl, hL, by rw [el]; simp, ?_⟩
      have ed : (y :: vs).reverse.dropLast = vs.reverse := by rw [el]; simp
      rw [ed]
      have tk : TK H1 (upd H1 W (.lst vs.reverse)) := TK.upd_lst hL
      have hs' : Same H (upd H1 W (.lst vs.reverse)) := same_over hs hW
      refine ⟨y, rfl, y, u, rfl, h1.mono tk, _, rfl, ?_⟩
      cases h1 with
      | @w z hz =>
        refine iteF ⟨_, rfl, z, rfl, hz, fun H2 s2 => ⟨_, rfl, iteF ⟨sizes ts, ?_, vs, ts, _, rfl, s2 _ _ upd_same, h2.mono (tk.trans (TK.of_same s2)), rfl, ?_, hs'.trans s2⟩⟩⟩
        · show sizes ts < 1 + sizes ts
          omega
        · have : 1 + sizes ts ≤ 1000000 := hm
          omega
      | @n p g x1 x2 a b e k1 k2 =>
        refine iteT ⟨_, rfl, .inl ⟨rfl, _, SqL.of upd_same⟩, _, rfl, _, rfl, p, _, rfl, SqT.of (tk _ _ e), cut_not, fun p' hp => ?_⟩
        have np : W ≠ p' := ne_of_none upd_same hp
        refine ⟨W, p', _, _, rfl, rfl, by rw [upd_ne np, upd_same], SqT.of upd_same, ?_, ?_⟩
        · have l1 := h2.length
          have l2 := sizes_len ts
          show vs.reverse.length + 2 ≤ sizeLine
          rw [List.length_reverse, sizeLine_eq]
          have : (1 + a.size + b.size) + sizes ts ≤ 1000000 := hm
          omega
        · have hp1 : H1 p' = none := by
            rw [upd_ne np.symm] at hp
            exact hp
          have tk2 : TK H1 (upd (upd (upd H1 W (.lst vs.reverse)) p' (.tup [x1, x2])) W (.lst (vs.reverse ++ [x1, x2]))) := (tk.trans (TK.upd_new hp)).trans (TK.upd_lst (by rw [upd_ne np, upd_same]))
          have tk3 : TK H1 (upd (upd H1 W (.lst vs.reverse)) p' (.tup [x1, x2])) := tk.trans (TK.upd_new hp)
          refine ⟨b.size + (a.size + sizes ts), ?_, x2 :: x1 :: vs, b :: a :: ts, _, rfl, ?_, .cons (k2.mono tk2) (.cons (k1.mono tk2) (h2.mono tk2)), rfl, ?_, ?_⟩
          · show _ < (1 + a.size + b.size) + sizes ts
            omega
          · rw [upd_same]
            simp
            rfl
          · have : (1 + a.size + b.size) + sizes ts ≤ 1000000 := hm
            omega
          · exact same_over (hs'.trans (same_upd hp)) hW
end
end Q4

/-! Functions as values: what may be called, and what must stand for it. -/
namespace KT
open PySem PySem.Spec PyProof.Rows L2 NdefX LamX
/-- objects that nobody tracks (captured cells) -/
abbrev Pins := List (Addr × Obj)
/-- function and code objects that are tracked -/
abbrev Exts := List (Addr × HO)
def Dep (D : Pins) (outer : List Env) (s : Shared) (H : Hp) : Prop := ∀ p ∈ D, s.heap.get? p.1 = some p.2 ∧ H p.1 = none ∧ p.1 ∉ frs outer
def ExOk (EX : Exts) (H : Hp) : Prop := ∀ p ∈ EX, H p.1 = some p.2
theorem Dep.nil {outer : List Env} {s : Shared} {H : Hp} : Dep [] outer s H := fun p hp => absurd hp (by simp)
theorem Dep.app {D D' : Pins} {outer : List Env} {s : Shared} {H : Hp} (h : Dep D outer s H) (h' : Dep D' outer s H) : Dep (D ++ D') outer s H := fun p hp => (List.mem_append.mp hp).elim (h p) (h' p)
theorem Dep.left {D D' : Pins} {outer : List Env} {s : Shared} {H : Hp} (h : Dep (D ++ D') outer s H) : Dep D outer s H := fun p hp => h p (List.mem_append.mpr (.inl hp))
theorem Dep.right {D D' : Pins} {outer : List Env} {s : Shared} {H : Hp} (h : Dep (D ++ D') outer s H) : Dep D' outer s H := fun p hp => h p (List.mem_append.mpr (.inr hp))
theorem Dep.go {X : Cx} {pins : List (Addr × Obj)} {σ : L2.St} {H : Hp} {s : Shared} {D : Pins} (hx : X.ex = []) (d : Dep D X.outer X.s_0 X.H_0) (I : Inv X pins σ H s) : Dep D X.stack s H := fun p hp => by
  obtain ⟨h1, h2, h3⟩ := d p hp
  have ne : p.1 ∉ X.ex := by rw [hx]; simp
  refine ⟨I.base.keep _ _ h1 h2 h3 ne, I.base.free _ _ h1 h2 ne, fun z => ?_⟩
  rcases List.mem_cons.mp (I.stkSub _ z) with e | e
  · have a := I.ok.above
    rw [← e] at a
    exact absurd (Heap.lt_size h1) (Nat.not_lt.mpr a)
  · exact h3 e
/-- f may be called by whoever keeps D and EX -/
structure Callee (P : Program) (w : World) (K : PySem.W.Frag) (mg : Str → Option Value) (base : Heap) (k : Nat) (f : Addr) (sp : Sp) (D : Pins) (EX : Exts) : Prop where
  run : ∀ (A : Around) (outer : List Env) (s : Shared) (H : Hp) (us : List Value) (vs : List V) (Q : VK), Room k A → Env0 P w K mg base A outer s H → Dep D outer s H → ExOk EX H → Vals vs us → sp vs H Q L2.E0 →
    codeAny (model P w) A (.call (.ref f) ⟨us, []⟩) (CR L2.CX0 outer P w H s Q L2.E0) s
  at_ : ∀ (h : Heap) (H : Hp), K.In h → HOk P w H h → ExOk EX H → PySem.W.FnAt f h
theorem Callee.mono {P : Program} {w : World} {K : PySem.W.Frag} {mg : Str → Option Value} {base : Heap} {k j : Nat} {f : Addr} {sp : Sp} {D D' : Pins} {EX EX' : Exts} (C : Callee P w K mg base k f sp D EX) (hk : k ≤ j) (hD : ∀ p ∈ D, p ∈ D') (hE : ∀ p ∈ EX, p ∈ EX') : Callee P w K mg base j f sp D' EX' :=
  ⟨fun A outer s H us vs Q hr e0 d x r q => C.run A outer s H us vs Q (hr.mono hk) e0 (fun p hp => d p (hD p hp)) (fun p hp => x p (hE p hp)) r q, fun h H a b c => C.at_ h H a b fun p hp => c p (hE p hp)⟩
theorem Callee.imp {P : Program} {w : World} {K : PySem.W.Frag} {mg : Str → Option Value} {base : Heap} {k : Nat} {f : Addr} {sp sp' : Sp} {D : Pins} {EX : Exts} (C : Callee P w K mg base k f sp D EX) (h : ∀ vs H Q, sp' vs H Q L2.E0 → sp vs H Q L2.E0) : Callee P w K mg base k f sp' D EX :=
  ⟨fun A outer s H us vs Q hr e0 d x r q => C.run A outer s H us vs Q hr e0 d x r (h _ _ _ q), C.at_⟩
/-- a def of the top -/
theorem callee_top {P : Program} {w : World} {K : PySem.W.Frag} {mg : Str → Option Value} {base : Heap} {k : Nat} {f : Addr} {fd : FuncData} {x q : Str} {st : Stmt} {ps : List Str} {sp : Sp} (F : FnOk P w K mg base L2.CX0 k f fd ps sp) (T : Fun K x q st f fd) (b : L2.Binds K fd ps []) : Callee P w K mg base k f sp [] [] where
  run := fun A outer s H us vs Q hr e0 _ _ r h => by
    have KX : K.In s.heap := e0.mod.kin.keeps fun b o e => (e0.bs b o e).1
    have hl : (us ++ []).length = ps.length := by
      rw [List.append_nil, ← r.length]
      exact F.len _ _ _ _ h
    have hb := b s us KX hl
    rw [List.append_nil] at hb
    exact F.run A outer s H ⟨us, []⟩ us vs Q L2.E0 hr e0 hb r h
  at_ := fun h H KX _ _ => by
    obtain ⟨oc, od, kV, doc, pm, an, cdv, ct, osl, rfl, lk, _⟩ := T.ex
    exact ⟨_, _, _, _, KX _ _ lk⟩
section
variable {X : Cx} {k i : Nat} {f : Addr} {sp : Sp} {D : Pins} {EX : Exts} {x : Str} {p pos : Pos} {e : Expr} {es : List Expr} {t : TA}
theorem run_callee {pins : List (Addr × Obj)} {σ : L2.St} {H : Hp} {s : Shared} {Q : VK} {us : List Value} {vs : List V} (C : Callee X.prog X.w X.K X.mg X.base k f sp D EX) (hr : Room k X.A) (d : Dep D X.stack s H) (x : ExOk EX H) (I : Inv X pins σ H s) (r : Vals vs us) (h : sp vs H Q L2.E0) :
    wpAny (model X.prog X.w) X.A (call (.ref f) us) (EP X pins σ Q) X.xe s := by
  refine wpAny_call (codeAny_mono (C.run X.A X.stack s H us vs Q hr I.env0 d x r h) fun q s' hq => ?_)
  match q, hq with
  | .error _, hq => exact False.elim hq
  | .ok (.ret _), hq => exact I.after hq
  | .ok .next, hq => exact False.elim hq
  | .ok .brk, hq => exact False.elim hq
  | .ok .cont, hq => exact False.elim hq
def tCallee (i : Nat) (f : Addr) (sp : Sp) (EX : Exts) (t : TA) : TE := fun σ H Q => σ[i]? = some (some (.ref f)) ∧ ExOk EX H ∧ t σ H fun vs H1 => ExOk EX H1 ∧ sp vs H1 Q L2.E0
/-- x(e, ..), x a name that holds f -/
theorem pe_callee (C : Callee X.prog X.w X.K X.mg X.base k f sp D EX) (hr : Room k X.A) (hx : X.ex = []) (d : Dep D X.outer X.s_0 X.H_0) (hN : X.N[i]? = some x) (hv : Vis X.env.scope x) (ha : PA X (e :: es) t)
    (hd : (x == ("__debug__" : Str)) = false := by decide) (hcd : (x == ("__classdict__" : Str)) = false := by decide)
    (he : starEach (e :: es) X.env = (false, eval e X.env) :: starEach es X.env := by rfl) (hpl : (backTo pos (starEach es X.env)).any (·.1) = false := by rfl) :
    PE X (.Call (.Name x p) (e :: es) [] pos) (tCallee i f sp EX t) := by
  refine ⟨fun pins s σ H Q I h => ?_⟩
  obtain ⟨hs, hE, ht⟩ := h
  refine wpAny_Call_Name_kw (thn ((pe_var (pos := p) hN hv hd hcd).run pins s σ H (fun v H1 => v = .ref f ∧ H1 = H) I ⟨.ref f, hs, rfl, rfl⟩) fun u s1 ⟨v, H1, I1, r1, q1⟩ => ?_)
  obtain ⟨ev, eH⟩ := q1
  subst ev
  rw [eH] at I1
  obtain rfl : u = Value.ref f := r1
  refine PySem.W.callWith_F (first := []) (C.at_ _ _ I1.kIn I1.hok hE) (thn (ha.run pos pins s1 σ H _ I1 ht) fun us s2 ⟨vs, H2, I2, r, h1, q⟩ => ⟨C.at_ _ _ I2.kIn I2.hok h1, ?_⟩) he hpl
  show wpAny _ _ (call (.ref f) us) _ _ _
  exact run_callee C hr (d.go hx I2) h1 I2 r q
end
/-! ### what is captured -/
/-- the cells of cl stand in D, with the values ws -/
structure CellD (D : Pins) (cl : List (Str × Addr)) (fr : List Str) (ws : List (Option V)) : Prop where
  len : ws.length = fr.length
  all : ∀ y c, cl.lookup y = some c → ∃ o v, (c, o) ∈ D ∧ o.data = .cell v
  inj : ∀ x y c, cl.lookup x = some c → cl.lookup y = some c → x = y
  has : ∀ (i : Nat) (y : Str), fr[i]? = some y → ∃ c, cl.lookup y = some c ∧ ∀ v, ws[i]? = some (some v) → ∃ u o, L2.RelV v u ∧ (c, o) ∈ D ∧ o.data = .cell (some u)
theorem CellD.at_ {D : Pins} {cl : List (Str × Addr)} {fr : List Str} {ws : List (Option V)} (C : CellD D cl fr ws) {outer : List Env} {s : Shared} {H : Hp} (d : Dep D outer s H) : CellsAt cl fr ws s.heap H where
  len := C.len
  all := fun y c e => by
    obtain ⟨o, v, hm, hd⟩ := C.all y c e
    obtain ⟨h1, h2, _⟩ := d _ hm
    exact ⟨h2, v, o, h1, hd⟩
  inj := C.inj
  has := fun i y e => by
    obtain ⟨c, hc, hv⟩ := C.has i y e
    refine ⟨c, hc, fun v ev => ?_⟩
    obtain ⟨u, o, r, hm, hd⟩ := hv v ev
    exact ⟨u, r, o, (d _ hm).1, hd⟩
theorem CellD.mono {D D' : Pins} {cl : List (Str × Addr)} {fr : List Str} {ws : List (Option V)} (C : CellD D cl fr ws) (h : ∀ p ∈ D, p ∈ D') : CellD D' cl fr ws :=
  ⟨C.len, fun y c e => by
    obtain ⟨o, v, hm, hd⟩ := C.all y c e
    exact ⟨o, v, h _ hm, hd⟩, C.inj, fun i y e => by
    obtain ⟨c, hc, hv⟩ := C.has i y e
    refine ⟨c, hc, fun v ev => ?_⟩
    obtain ⟨u, o, r, hm, hd⟩ := hv v ev
    exact ⟨u, o, r, h _ hm, hd⟩⟩
/-- the running def's own cells, as they stand -/
theorem own_cells {X : Cx} {pins : List (Addr × Obj)} {σ : L2.St} {H : Hp} {s : Shared} {cl : List (Str × Addr)} {fr : List Str} {js : List Nat} (I : Inv X pins σ H s) (hx : X.ex = []) (hfn : ∀ x, X.fn x = true) (c : Caps X cl fr js) :
    ∃ D, Dep D X.stack s H ∧ CellD D cl fr (js.map (slotAt σ)) := by
  have C := cells_of I c
  have mem : ∀ {y : Str} {a : Addr} {o : Obj}, cl.lookup y = some a → s.heap.get? a = some o → (a, o) ∈ cl.filterMap (fun p => (cl.lookup p.1).bind fun a => (s.heap.get? a).map fun o => (a, o)) := fun {y a o} e ho => by
    refine List.mem_filterMap.mpr ⟨(y, a), PySem.mem_of_lookup e, ?_⟩
    show (cl.lookup y).bind _ = _
    rw [e]
    show (s.heap.get? a).map _ = _
    rw [ho]
    rfl
  refine ⟨cl.filterMap fun p => (cl.lookup p.1).bind fun a => (s.heap.get? a).map fun o => (a, o), fun p hp => ?_, C.len, fun y a e => ?_, C.inj, fun i y e => ?_⟩
  · obtain ⟨⟨y, a0⟩, hm, e⟩ := List.mem_filterMap.mp hp
    obtain ⟨a, ha, e⟩ := Option.bind_eq_some_iff.mp e
    obtain ⟨o, ho, e⟩ := Option.map_eq_some_iff.mp e
    subst e
    have ha' : cl.lookup y = some a := ha
    have hX := c.sub y a ha'
    refine ⟨ho, (C.all y a ha').1, fun z => ?_⟩
    rcases List.mem_cons.mp (I.stkSub _ z) with e | e
    · exact I.cne y a hX e
    · obtain ⟨_, o', ho', _⟩ := I.ok.funs.mem e
      exact absurd (Heap.lt_size ho') (Nat.not_lt.mpr (I.ok.cab y a (hfn y) hX))
  · obtain ⟨_, v, o, ho, hd⟩ := C.all y a e
    exact ⟨o, v, mem e ho, hd⟩
  · obtain ⟨a, ha, hv⟩ := C.has i y e
    refine ⟨a, ha, fun v ev => ?_⟩
    obtain ⟨u, r, o, ho, hd⟩ := hv v ev
    exact ⟨u, o, r, mem ha ho, hd⟩
/-! ### functions made within defs -/
section
variable {P : Program} {w : World} {K : PySem.W.Frag} {mg : Str → Option Value} {base : Heap} {N ps fr : List Str} {ws : List (Option V)} {F : NF} {f : Addr} {k : Nat} {sp : Sp} {D : Pins} {EX : Exts}
/-- a def in a def -/
theorem callee_def (S : NScope N ps fr F.scope) (hb : ∀ (doc pm ctv : Value) (us : List Value), us.length = ps.length → bindArgs (F.fd doc pm ctv) ⟨us, []⟩ = pure (ps.zip us)) (len : ∀ vs H Q, sp vs H Q L2.E0 → vs.length = ps.length)
    (hf : (f, FnO f F) ∈ EX) (hc : (F.c, CodeO F.c F.qual) ∈ EX) (C : CellD D F.cl fr ws)
    (hbody : ∀ (A : Around) (outer : List Env) (s : Shared) (H : Hp) (vs : List V) (Q : VK), Room k (A.deeper (envF F f s.heap.objs.size)) → Dep D outer s H → ExOk EX H → sp vs H Q L2.E0 →
      ∃ t, PSs (ncx L2.CX0 P w K mg base N F f A outer s H L2.E0) F.body t ∧ t { nx := fun _ H' => Q .non H', rt := Q } (startF N vs ws) H) :
    Callee P w K mg base (k + 1) f sp D EX where
  at_ := fun h H _ hok x => by
    obtain ⟨od, sl, doc, pm, ctv, ho⟩ := fnO_at hok (x _ hf)
    exact ⟨_, od, _, sl, ho⟩
  run := fun A outer s H us vs Q hr e0 d x r hsp => by
    have hl := len _ _ _ hsp
    have lim : s.heap.NoLimit := e0.mod.nolimit.keeps fun b o e => (e0.bs b o e).1
    obtain ⟨od, sl, doc, pm, ctv, ho⟩ := fnO_at e0.hok (x _ hf)
    refine codeAny_call_function hr.depth ho rfl S.co S.gen rfl (codeO_at e0.hok (x _ hc)) ?_
    rw [hb doc pm ctv us (by rw [← r.length]; exact hl)]
    refine wpAny_pure (wpAny_newFunctionEnv S.nocell (fun ⟨n, _⟩ hy => S.par n (List.of_mem_zip hy).1) (fun h₁ hns hsb => ⟨lim.fresh _ hsb, ?_⟩) S.kind)
    show codeAny _ _ (.func F.body (envF F f s.heap.objs.size)) _ _
    refine codeAny_func ?_
    have kp : ∀ b o, s.heap.get? b = some o → h₁.get? b = some o := fun b o e => hsb.extBut b o (Nat.ne_of_lt (Heap.lt_size e)) (Heap.get?_push_of_some _ e)
    obtain ⟨t, ht, hq⟩ := hbody A outer s H vs Q (hr.deeper _) d x hsp
    have I : Inv (ncx L2.CX0 P w K mg base N F f A outer s H L2.E0) [] (startF N vs ws) H { s with heap := h₁, toks := s.toks + (ps.zip us).length } := inv_startN S hr.hd e0 hl r (C.at_ d) hns kp
    refine wpAny_mono (ht.run [] _ (startF N vs ws) H _ I hq) (fun fl s' hs => ?_) fun e s' hs => hs
    have fin : ∀ {σ' : L2.St} {H' : Hp} {v : V} {u : Value}, Inv (ncx L2.CX0 P w K mg base N F f A outer s H L2.E0) [] σ' H' s' → L2.RelV v u → Q v H' → CE outer P w H s Q u s' :=
      fun {σ' H' v u} J rv q => ⟨v, H', J.os, J.bare, J.base, J.hok, rv, q⟩
    match fl, hs with
    | .ret u, ⟨v, σ', H', J, rv, q⟩ => exact fin J rv q
    | .next, ⟨σ', H', J, q⟩ => exact fin (v := V.non) (u := Value.none) J rfl q
    | .brk, ⟨_, _, _, q⟩ => exact False.elim q
    | .cont, ⟨_, _, _, q⟩ => exact False.elim q
/-- the object at f is the lambda of these words -/
def LamO (f : Addr) (F : NF) (body : Expr) : HO := .ext fun h => ∃ (pm ctv : Value), h.get? f = some (PySem.W.kla_obj F.name F.qual F.params body F.scope F.cl pm F.c ctv)
theorem lamO_at {H : Hp} {h : Heap} {body : Expr} (hok : HOk P w H h) (e : H f = some (LamO f F body)) : ∃ (pm ctv : Value), h.get? f = some (PySem.W.kla_obj F.name F.qual F.params body F.scope F.cl pm F.c ctv) := by
  obtain ⟨z, _, _⟩ := hok f _ e
  exact z
theorem callee_lam {body : Expr} (S : NScope N ps fr F.scope) (hb : ∀ (pm ctv : Value) (us : List Value), us.length = ps.length → bindArgs (PySem.W.kla_fn F.name F.qual F.params body F.scope F.cl pm (.ref F.c) ctv) ⟨us, []⟩ = pure (ps.zip us)) (len : ∀ vs H Q, sp vs H Q L2.E0 → vs.length = ps.length)
    (hf : (f, LamO f F body) ∈ EX) (hc : (F.c, CodeO F.c F.qual) ∈ EX) (C : CellD D F.cl fr ws)
    (hbody : ∀ (A : Around) (outer : List Env) (s : Shared) (H : Hp) (vs : List V) (Q : VK), Room k (A.deeper (envF F f s.heap.objs.size)) → Dep D outer s H → ExOk EX H → sp vs H Q L2.E0 →
      ∃ t, PE (ncx L2.CX0 P w K mg base N F f A outer s H L2.E0) body t ∧ t (startF N vs ws) H Q) :
    Callee P w K mg base (k + 1) f sp D EX where
  at_ := fun h H _ hok x => by
    obtain ⟨pm, ctv, ho⟩ := lamO_at hok (x _ hf)
    exact ⟨_, _, _, _, ho⟩
  run := fun A outer s H us vs Q hr e0 d x r hsp => by
    have hl := len _ _ _ hsp
    have lim : s.heap.NoLimit := e0.mod.nolimit.keeps fun b o e => (e0.bs b o e).1
    obtain ⟨pm, ctv, ho⟩ := lamO_at e0.hok (x _ hf)
    refine PySem.W.kla_callFunE hr.depth ho rfl S.co S.gen rfl (codeO_at e0.hok (x _ hc)) ?_
    rw [hb pm ctv us (by rw [← r.length]; exact hl)]
    refine wpAny_pure (wpAny_newFunctionEnv S.nocell (fun ⟨n, _⟩ hy => S.par n (List.of_mem_zip hy).1) (fun h₁ hns hsb => ⟨lim.fresh _ hsb, ?_⟩) S.kind)
    show codeAny _ _ (.expr body (envF F f s.heap.objs.size)) _ _
    have kp : ∀ b o, s.heap.get? b = some o → h₁.get? b = some o := fun b o e => hsb.extBut b o (Nat.ne_of_lt (Heap.lt_size e)) (Heap.get?_push_of_some _ e)
    obtain ⟨t, ht, hq⟩ := hbody A outer s H vs Q (hr.deeper _) d x hsp
    have I : Inv (ncx L2.CX0 P w K mg base N F f A outer s H L2.E0) [] (startF N vs ws) H { s with heap := h₁, toks := s.toks + (ps.zip us).length } := inv_startN S hr.hd e0 hl r (C.at_ d) hns kp
    refine PySem.W.kla_codeExpr (wpAny_mono (ht.run [] _ (startF N vs ws) H Q I hq) (fun v s' hq => ?_) fun e s' hq => hq)
    obtain ⟨w', H', J, rv, q⟩ := hq
    exact ⟨w', H', J.os, J.bare, J.base, J.hok, rv, q⟩
end
end KT

/-! A lambda as a value; defs whose promise stands on captured cells. -/
namespace KT
open PySem PySem.Spec PyProof.Rows L2 NdefX LamX
section
variable {X : Cx} {pins : List (Addr × Obj)} {σ : L2.St} {H : Hp} {s : Shared}
theorem inv_lam {F : NF} {body : Expr} {o : Obj} {t' : Nat} {pm ctv : Value} (I : Inv X pins σ H s) (ho : o = PySem.W.kla_obj F.name F.qual F.params body F.scope F.cl pm F.c ctv) :
    Inv X pins σ (upd H s.heap.objs.size (LamO s.heap.objs.size F body)) { s with heap := s.heap.push o, toks := t' } := by
  subst ho
  refine I.laid (a := s.heap.objs.size) (fun b u e => Heap.get?_push_of_some _ e) (Nat.le_refl _) ?_
  have e : (s.heap.push (PySem.W.kla_obj F.name F.qual F.params body F.scope F.cl pm F.c ctv)).get? s.heap.objs.size = some (PySem.W.kla_obj F.name F.qual F.params body F.scope F.cl pm F.c ctv) := Heap.get?_push_size _ rfl
  exact ⟨⟨pm, ctv, e⟩, ⟨_, e⟩, fun h1 h2 ⟨p, t, z⟩ st => ⟨p, t, st _ z⟩⟩
abbrev lamF (X : Cx) (params : Arguments) (scope : Scope) (c' : Addr) : NF := ⟨"<lambda>", X.env.qual ++ "<lambda>", params, [], scope, cloFrom X.env.cells scope.names [], c'⟩
theorem lam_makeT {T : List (Addr × Str)} {c P : Addr} {params : Arguments} {body : Expr} {scope : Scope} {pos : Pos} {E : Value → Shared → Prop} {Q : Value → Shared → Prop} (I : Inv X pins σ H s) (TB : TabB X.base X.mg c P) (hcode : X.env.code = .ref c)
    (hm : (P, X.env.qual ++ "<lambda>") ∈ T) (hu : ∀ p ∈ T, p.1 = P → p.2 = X.env.qual ++ "<lambda>") (hT : Tabs T H) (hdef : defaultsOf params X.env = ([], [])) (hfree : ∀ y ∈ scope.names, y.2 = .free → ∃ c, X.env.cells.lookup y.1 = some c)
    (h : ∀ (f c' : Addr) (H1 : Hp) (s' : Shared), Inv X pins σ H1 s' → ExtN H H1 → (∀ b, H1 b = none → H b = none) → Tabs T H1 → H f = none → H1 f = some (LamO f (lamF X params scope c') body) → H1 c' = some (CodeO c' (X.env.qual ++ "<lambda>")) → Q (.ref f) s') :
    wpAny (model X.prog X.w) X.A (eval (.Lambda params body scope pos) X.env) Q E s := by
  obtain ⟨ps, hP, ht, ha⟩ := hT _ hm
  refine PySem.W.kla_eval hdef ?_
  have bP : s.heap.BuiltinsAt X.mg P := TB.bm.keeps I.bk
  have hP' : s.heap.get? P = some { cls := .none, data := .fields ps } := I.hok P _ hP
  cases hc : codeAmong pos ps.toList with
  | none =>
    refine PySem.W.kla_makeFunction (mg := X.mg) (c := c) (P := P) (ps := ps) (closure_ok hfree) I.ok.glob (I.mod.glob.keeps I.bk) hcode (TB.code.keeps I.bk) hP' ht hc TB.gP bP fun c' ctv h' tk hx hge hlt hrec htb => ?_
    obtain ⟨c2, oc, vs, t, e2, hoc, hd, hv⟩ := hrec
    cases e2
    have nC : H c' = none := I.hok.fresh hge
    have I1 := inv_table (t' := tk) (more := #[rawInt pos.line, rawInt pos.col, .ref c']) (h' := h') I hP (fun b o hb e => hx b o hb e) htb hge ⟨oc, vs, t, hoc, hd, hv⟩
    have hE : ExtN H (upd (upd H P (.tbl (ps ++ #[rawInt pos.line, rawInt pos.col, .ref c']))) c' (CodeO c' (X.env.qual ++ "<lambda>"))) := fun b o e n => by
      rw [upd_ne (ne_of_none e nC), upd_ne (fun z => n ps (Option.some.inj (e.symm.trans (by rw [z]; exact hP))))]
      exact e
    have eL : (ps ++ #[rawInt pos.line, rawInt pos.col, .ref c']).toList = ps.toList ++ [rawInt pos.line, rawInt pos.col, .ref c'] := by simp
    have T1 : Tabs T (upd (upd H P (.tbl (ps ++ #[rawInt pos.line, rawInt pos.col, .ref c']))) c' (CodeO c' (X.env.qual ++ "<lambda>"))) := fun p hp => by
      by_cases hb : p.1 = P
      · rw [hu p hp hb, hb]
        refine ⟨_, by rw [upd_ne (ne_of_none hP nC), upd_same], by rw [eL]; exact PySem.TriplesOk_snoc _ _ _ _ ht, fun p' cv hcv => ?_⟩
        rw [eL] at hcv
        rcases among_app _ ht hcv with z | z
        · obtain ⟨c0, e1, e2⟩ := ha p' cv z
          exact ⟨c0, e1, hE _ _ e2 codeO_ne⟩
        · exact ⟨c', z, upd_same⟩
      · obtain ⟨ps', a1, a2, a3⟩ := hT p hp
        refine ⟨ps', by rw [upd_ne (ne_of_none a1 nC), upd_ne hb]; exact a1, a2, fun p' cv hcv => ?_⟩
        obtain ⟨c0, e1, e2⟩ := a3 p' cv hcv
        exact ⟨c0, e1, hE _ _ e2 codeO_ne⟩
    have nF := I1.hok.fresh (Nat.le_refl _)
    have I2 := inv_lam (F := lamF X params scope c') (body := body) (t' := tk) (pm := (X.mg "__name__").getD .none) (ctv := ctv) I1 rfl
    refine h h'.objs.size c' _ _ I2 (fun b o e n => ?_) (fun b e => upd_none (upd_none (upd_none e))) (T1.ext fun b o e => ?_) (I.hok.fresh (Nat.le_trans hge (Nat.le_of_lt hlt))) upd_same ?_
    · have e1 := hE b o e n
      exact (upd_ne (ne_of_none e1 nF)).trans e1
    · exact (upd_ne (ne_of_none e nF)).trans e
    · exact (upd_ne (Nat.ne_of_lt hlt)).trans upd_same
  | some cv =>
    obtain ⟨c', e, hco⟩ := ha pos cv hc
    subst e
    refine PySem.W.kla_makeFunctionHit (mg := X.mg) (c := c) (P := P) (ps := ps) (closure_ok hfree) I.ok.glob (I.mod.glob.keeps I.bk) hcode (TB.code.keeps I.bk) hP' ht hc bP fun ctv h' tk hx hsz => ?_
    have I1 : Inv X pins σ H { s with heap := h', toks := tk } := I.kept hx
    have nF : H h'.objs.size = none := I1.hok.fresh (Nat.le_refl _)
    have I2 := inv_lam (F := lamF X params scope c') (body := body) (t' := tk) (pm := (X.mg "__name__").getD .none) (ctv := ctv) I1 rfl
    refine h h'.objs.size c' _ _ I2 (fun b o e n => ?_) (fun b e => upd_none e) (hT.ext fun b o e => ?_) nF upd_same ?_
    · exact (upd_ne (ne_of_none e nF)).trans e
    · exact (upd_ne (ne_of_none e nF)).trans e
    · exact (upd_ne (ne_of_none hco nF)).trans hco
end
/-- lambda ..: .., as a value -/
def tLamV (T : List (Addr × Str)) (mk : Addr → NF) (body : Expr) : TE := fun _ H Q => Tabs T H ∧ ∀ (f c' : Addr) (H1 : Hp), ExtN H H1 → (∀ b, H1 b = none → H b = none) → Tabs T H1 → H f = none → H1 f = some (LamO f (mk c') body) → H1 c' = some (CodeO c' (mk c').qual) → Q (.ref f) H1
section
variable {X : Cx}
theorem pe_lamV {T : List (Addr × Str)} {c P : Addr} {params : Arguments} {body : Expr} {scope : Scope} {pos : Pos} (TB : TabB X.base X.mg c P) (hcode : X.env.code = .ref c)
    (hm : (P, X.env.qual ++ "<lambda>") ∈ T) (hu : ∀ p ∈ T, p.1 = P → p.2 = X.env.qual ++ "<lambda>") (hdef : defaultsOf params X.env = ([], []))
    (hfree : ∀ y ∈ scope.names, y.2 = .free → X.env.scope.names.lookup y.1 = some .cell ∨ X.env.scope.names.lookup y.1 = some .free) :
    PE X (.Lambda params body scope pos) (tLamV T (lamF X params scope) body) := by
  refine ⟨fun pins s σ H Q I h => ?_⟩
  obtain ⟨hT, h⟩ := h
  have hfr : ∀ y ∈ scope.names, y.2 = .free → ∃ c, X.env.cells.lookup y.1 = some c := fun y hy e => (hfree y hy e).elim (fun z => I.ok.has _ (.inl z)) fun z => I.ok.has _ (.inr z)
  exact lam_makeT I TB hcode hm hu hT hdef hfr fun f c' H1 s' I1 eN nn T1 f0 f1 c1 => ⟨.ref f, H1, I1, rfl, h f c' H1 eN nn T1 f0 f1 c1⟩
end
/-! ### defs whose promise stands on pins -/
structure FnD (P : Program) (w : World) (K : PySem.W.Frag) (mg : Str → Option Value) (base : Heap) (k : Nat) (f : Addr) (fd : FuncData) (ps : List Str) (sp : Pins → Sp) : Prop where
  len : ∀ D vs H Q, sp D vs H Q L2.E0 → vs.length = ps.length
  run : ∀ (D : Pins) (B : Around) (outer : List Env) (s : Shared) (H : Hp) (args : Args) (us : List Value) (vs : List V) (Q : VK), Room k B → Env0 P w K mg base B outer s H →
    BindsTo s fd args (ps.zip us) → Vals vs us → Dep D outer s H → sp D vs H Q L2.E0 → codeAny (model P w) B (.call (.ref f) args) (CR L2.CX0 outer P w H s Q L2.E0) s
/-- THE RULE for such a def; c: its code object -/
theorem fnd_of {P : Program} {w : World} {K : PySem.W.Frag} {mg : Str → Option Value} {base : Heap} {x qual : Str} {st : Stmt} {f c : Addr} {N ps : List Str} {k : Nat} {sp : Pins → Sp} {oc : Value} {od : Option Addr} {kV doc pm : Value} {an : Option Addr} {ct : Value} {osl : Array (Option Value)}
    (lk : K.lookup f = some ⟨oc, od, .func (PySem.W.fnOf x qual (L2.defArgs st) (L2.defBody st) (L2.defScope st) .none kV doc pm an (.ref c) ct), osl⟩) (hcd : PySem.W.codeIn K (.ref c) qual = true)
    (S : FnScope N ps (L2.defScope st)) (len : ∀ D vs H Q, sp D vs H Q L2.E0 → vs.length = ps.length)
    (body : ∀ (D : Pins) (B : Around) (outer : List Env) (s : Shared) (H : Hp) (vs : List V) (Q : VK), Room k (B.deeper (envOfC qual (L2.defScope st) s.heap.objs.size f (.ref c))) → Dep D outer s H → sp D vs H Q L2.E0 →
      ∃ t, PSs (cxOf L2.CX0 P w K mg base N qual (L2.defScope st) f (.ref c) B outer s H L2.E0).nox (L2.defBody st) t ∧ t { nx := fun _ H' => Q .non H', rt := Q } (start N vs) H) :
    FnD P w K mg base (k + 1) f (PySem.W.fnOf x qual (L2.defArgs st) (L2.defBody st) (L2.defScope st) .none kV doc pm an (.ref c) ct) ps sp := by
  refine ⟨len, fun D B outer s H args us vs Q hr e0 hb r d hsp => ?_⟩
  have hl := len _ _ _ _ hsp
  have KX : K.In s.heap := e0.mod.kin.keeps fun b o e => (e0.bs b o e).1
  have lim : s.heap.NoLimit := e0.mod.nolimit.keeps fun b o e => (e0.bs b o e).1
  have kinds : ∀ y ∈ ps.zip us, (L2.defScope st).names.lookup y.1 = some .local ∨ ((L2.defScope st).names.lookup y.1 = some .cell ∧ ((cellsFrom (s.heap.objs.size + 1) (L2.defScope st).names []).lookup y.1).isSome = true) := by
    rintro ⟨n, v⟩ hy
    exact (S.par n (List.of_mem_zip hy).1).imp id fun q => ⟨q, PySem.W.cellsFrom_some _ _ _ (.inl q)⟩
  refine codeAny_call_function hr.depth (KX _ _ lk) rfl S.co S.gen rfl (PySem.W.codeRec_of KX hcd) (hb _ _ _ _ ?_)
  refine wpAny_newFunctionEnv_cells S.kind kinds fun env he s1 z => ?_
  subst he
  refine ⟨lim.keeps z.toInCall.keep, codeAny_func ?_⟩
  obtain ⟨t, ht, hq⟩ := body D B outer s H vs Q (hr.deeper _) d hsp
  have I := inv_start (CX := L2.CX0) (E := L2.E0) S hr.hd e0 hl r z
  refine wpAny_mono (ht.nox.run [] s1 (start N vs) H _ I hq) (fun fl s' hs => ?_) fun e s' hs => hs
  match fl, hs with
  | .ret u, ⟨v, σ', H', J, rv, q⟩ => exact ⟨v, H', J.os, J.bare, J.base, J.hok, rv, q⟩
  | .next, ⟨σ', H', J, q⟩ => exact ⟨V.non, H', J.os, J.bare, J.base, J.hok, rfl, q⟩
  | .brk, ⟨_, _, _, q⟩ => exact False.elim q
  | .cont, ⟨_, _, _, q⟩ => exact False.elim q
section
variable {X : Cx} {k : Nat} {f : Addr} {fd : FuncData} {ps : List Str} {sp : Pins → Sp} {x : Str} {p pos : Pos} {e : Expr} {es : List Expr} {t : TA} {D0 : Pins}
/-- f(e, ..), what stands for D0 and the cells cl of the running def -/
def tDCall (D0 : Pins) (cl : List (Str × Addr)) (fr : List Str) (js : List Nat) (sp : Pins → Sp) (t : TA) : TE := fun σ H Q => t σ H fun vs H1 => ∀ D1 : Pins, CellD D1 cl fr (js.map (slotAt σ)) → sp (D0 ++ D1) vs H1 Q L2.E0
theorem pe_dcall {cl : List (Str × Addr)} {fr : List Str} {js : List Nat} (F : FnD X.prog X.w X.K X.mg X.base k f fd ps sp) (hr : Room k X.A) (hx : X.ex = []) (hfn : ∀ x, X.fn x = true) (d : Dep D0 X.outer X.s_0 X.H_0) (cp : X.Ok → Caps X cl fr js)
    (hg : Gl X x) (hm : X.mg x = some (.ref f)) (hk : PySem.W.keepIn X.K (.ref f) = true) (hb : L2.Binds X.K fd ps [])
    (ha : PA X (e :: es) t) (hdb : (x == ("__debug__" : Str)) = false := by decide) (he : starEach (e :: es) X.env = (false, eval e X.env) :: starEach es X.env := by rfl) (hpl : (backTo pos (starEach es X.env)).any (·.1) = false := by rfl) :
    PE X (.Call (.Name x p) (e :: es) [] pos) (tDCall D0 cl fr js sp t) := by
  refine ⟨fun pins s σ H Q I h => wpAny_Call_Name_kw (ld_glob I hg hm ?_ hdb)⟩
  refine PySem.W.callWith_K (h₀ := X.base) I.ok.mod.kin hk (thn (ha.run pos pins s σ H _ I h) fun us s1 ⟨vs, H1, I1, r, q⟩ => ⟨I1.kIn, ?_⟩) he hpl
  obtain ⟨D1, d1, C1⟩ := own_cells I1 hx hfn (cp I1.ok)
  have hq := q D1 C1
  have hl : (us ++ []).length = ps.length := by
    rw [List.append_nil, ← r.length]
    exact F.len _ _ _ _ hq
  have hb' := hb s1 us I1.kIn hl
  rw [List.append_nil] at hb'
  refine wpAny_call (codeAny_mono (F.run (D0 ++ D1) X.A X.stack s1 H1 ⟨us, []⟩ us vs Q hr I1.env0 hb' r ((d.go hx I1).app d1) hq) fun q s' hq => ?_)
  match q, hq with
  | .error _, hq => exact False.elim hq
  | .ok (.ret _), hq => exact I1.after hq
  | .ok .next, hq => exact False.elim hq
  | .ok .brk, hq => exact False.elim hq
  | .ok .cont, hq => exact False.elim hq
end
end KT

namespace KT
open PySem PySem.Spec PyProof.Rows L2 NdefX LamX
/-- a promise that needs no pins is one of the plain kind -/
theorem FnD.ok {P : Program} {w : World} {K : PySem.W.Frag} {mg : Str → Option Value} {base : Heap} {k : Nat} {f : Addr} {fd : FuncData} {ps : List Str} {sp : Sp} (F : FnD P w K mg base k f fd ps (fun _ => sp)) (h0 : ∀ vs H Q E, sp vs H Q E → sp vs H Q L2.E0) : FnOk P w K mg base L2.CX0 k f fd ps sp := by
  refine ⟨fun vs H Q E h => F.len [] vs H Q (h0 _ _ _ _ h), fun B outer s H args us vs Q E hr e0 hb r h => codeAny_mono (F.run [] B outer s H args us vs Q hr e0 hb r Dep.nil (h0 _ _ _ _ h)) fun q s' hq => ?_⟩
  match q, hq with
  | .error _, hq => exact False.elim hq
  | .ok (.ret _), hq => exact hq
  | .ok .next, hq => exact False.elim hq
  | .ok .brk, hq => exact False.elim hq
  | .ok .cont, hq => exact False.elim hq
theorem CellD.nil {D : Pins} : CellD D [] [] [] := ⟨rfl, fun y c e => (by cases e), fun x y c e => (by cases e), fun i y e => (by simp at e)⟩
theorem Caps.nil {X : Cx} : Caps X [] [] [] := ⟨fun y c e => (by cases e), fun y hy => (by cases hy), fun y hy => (by cases hy), rfl⟩
section
variable {P : Program} {w : World} {K : PySem.W.Frag} {mg : Str → Option Value} {base : Heap} {N ps fr : List Str} {ws : List (Option V)} {F : NF} {f : Addr} {k : Nat} {sp : Sp} {D : Pins} {body : Expr} {H0 : Hp}
theorem lam_callee (e1 : H0 f = some (LamO f F body)) (e2 : H0 F.c = some (CodeO F.c F.qual)) (S : NScope N ps fr F.scope) (hb : ∀ (pm ctv : Value) (us : List Value), us.length = ps.length → bindArgs (PySem.W.kla_fn F.name F.qual F.params body F.scope F.cl pm (.ref F.c) ctv) ⟨us, []⟩ = pure (ps.zip us))
    (len : ∀ vs H Q, sp vs H Q L2.E0 → vs.length = ps.length) (C : CellD D F.cl fr ws)
    (hbody : ∀ (A : Around) (outer : List Env) (s : Shared) (H : Hp) (vs : List V) (Q : VK), Room k (A.deeper (envF F f s.heap.objs.size)) → Dep D outer s H → sp vs H Q L2.E0 →
      ∃ t, PE (ncx L2.CX0 P w K mg base N F f A outer s H L2.E0) body t ∧ t (startF N vs ws) H Q) :
    ∃ EX : Exts, Callee P w K mg base (k + 1) f sp D EX ∧ ExOk EX H0 ∧ ∀ p ∈ EX, ∀ ps, p.2 ≠ HO.tbl ps := by
  refine ⟨[(f, LamO f F body), (F.c, CodeO F.c F.qual)], callee_lam S hb len List.mem_cons_self (List.mem_cons_of_mem _ List.mem_cons_self) C fun A outer s H vs Q hr d _ h => hbody A outer s H vs Q hr d h, fun p hp => ?_, fun p hp ps => ?_⟩
  · rcases List.mem_cons.mp hp with rfl | hp
    · exact e1
    · rcases List.mem_cons.mp hp with rfl | hp
      · exact e2
      · exact absurd hp (by simp)
  · rcases List.mem_cons.mp hp with rfl | hp
    · exact fun z => by
        unfold LamO at z
        cases z
    · rcases List.mem_cons.mp hp with rfl | hp
      · exact codeO_ne ps
      · exact absurd hp (by simp)
end
end KT

namespace KT
open PySem PySem.Spec PyProof.Rows L2
theorem vals_at : ∀ {xs : List V} {us : List Value}, xs.length = us.length → (∀ (i : Nat) (x : V) (u : Value), xs[i]? = some x → us[i]? = some u → L2.RelV x u) → Vals xs us
  | [], [], _, _ => .nil
  | [], _ :: _, h, _ => by simp at h
  | _ :: _, [], h, _ => by simp at h
  | x :: xs, u :: us, h, k => .cons (k 0 x u rfl rfl) (vals_at (by simpa using h) fun i y v e1 e2 => k (i + 1) y v (by simpa using e1) (by simpa using e2))
section
variable {X : Cx}
/-- the signs of a text, one by one -/
def signsV (z : Str) : List V := z.cps.toList.map fun c => V.str ⟨#[c]⟩
/-- list(text) -/
theorem call_listS (hc : X.calm = true) : CallR X (.type "list") (fun xs H Q => ∃ z : Str, xs = [.str z] ∧ z.cps.size ≤ sizeLine ∧ ∀ p, H p = none → Q (.ref p) (upd H p (.lst (signsV z)))) := by
  intro pins s σ H xs us Q I r h
  obtain ⟨z, rfl, hz, q⟩ := h
  obtain ⟨u, rfl, t, rfl⟩ := vals1 r
  refine PySem.call_list_str (I.ok.hd hc) z t (fun h' tk acc c hk e hi => ?_) hz
  have rv : Vals (signsV z) acc.toList := by
    refine vals_at ?_ fun i x u h1 h2 => ?_
    · unfold signsV
      rw [List.length_map, Array.length_toList, Array.length_toList]
      exact hi.1.symm
    · obtain ⟨c, u', hc', rfl⟩ := hi.2 i u (by rw [← h2, Array.getElem?_toList])
      unfold signsV at h1
      rw [List.getElem?_map, Array.getElem?_toList, hc'] at h1
      cases h1
      exact ⟨u', rfl⟩
  refine ⟨.ref s.heap.objs.size, upd H s.heap.objs.size (.lst (signsV z)), I.laid hk (Nat.le_refl _) (show ObjOk X.prog X.w _ _ _ (.lst (signsV z)) from ⟨?_, acc.toList, c, rv, ?_⟩), rfl, q _ (I.hok.fresh (Nat.le_refl _))⟩
  · unfold signsV
    rw [List.length_map, Array.length_toList]
    exact hz
  · rw [Array.toArray_toList]
    exact e
end
end KT

namespace Q4
open PySem PySem.Spec PyProof.Rows L2 KT
open PySem.W (Frag)
open TL (tl tl_append)
theorem PurseAt.mono {H : Hp} {a : Addr} {n m : Nat} (h : PurseAt H a n) (l : n ≤ m) : PurseAt H a m := by
  obtain ⟨p0, p1, p2, p3, e, h0, h1, h1', h2, h2', h3, h3'⟩ := h
  exact ⟨p0, p1, p2, p3, e, h0, h1, h1', h2, by omega, h3, h3'⟩
theorem PurseAt.upd {H : Hp} {a b : Addr} {n : Nat} {o : HO} (h : PurseAt H a n) (l : a ≠ b) : PurseAt (upd H b o) a n := by
  obtain ⟨p0, p1, p2, p3, e, r⟩ := h
  exact ⟨p0, p1, p2, p3, by rw [upd_ne l]; exact e, r⟩
theorem PurseAt.ne {H : Hp} {a b : Addr} {n : Nat} (h : PurseAt H a n) (e : H b = none) : a ≠ b := by
  obtain ⟨p0, p1, p2, p3, e', _⟩ := h
  exact ne_of_none e' e
theorem KeepBut.upd_new {a b : Addr} {H H' : Hp} {o : HO} (k : KeepBut a H H') (n : H b = none) : KeepBut a H (upd H' b o) := fun c u e hc => by
  rw [upd_ne (ne_of_none e n)]
  exact k c u e hc
theorem isW_bent {b : Str} {s c : Nat} (h : IsW b) (hs : s < b.length) (hc : 97 ≤ c ∧ c ≤ 122) : IsW (cutS b none (some (s : Int)) ++ (⟨#[c]⟩ : Str) ++ cutS b (some ((s : Int) + 1)) none) := by
  obtain ⟨h1, h2, h3⟩ := h
  have e1 : (cutS b none (some (s : Int))).cps.toList = b.cps.toList.take s := by
    unfold cutS
    rw [HT.sIx_nat, HT.sIx_none]
    have : min s b.length - 0 = s := by omega
    rw [this]
    simp
  have e2 : (cutS b (some ((s : Int) + 1)) none).cps.toList = b.cps.toList.drop (s + 1) := by
    unfold cutS
    have e : ((s : Int) + 1) = ((s + 1 : Nat) : Int) := by omega
    rw [e, HT.sIx_nat, HT.sIx_none]
    have : min (s + 1) b.length = s + 1 := by omega
    rw [this]
    have l : b.cps.toList.length = b.length := Array.length_toList
    show (List.take _ _).toArray.toList = _
    rw [List.take_of_length_le (by rw [List.length_drop, l]; exact Nat.le_refl _)]
  have et : (cutS b none (some (s : Int)) ++ (⟨#[c]⟩ : Str) ++ cutS b (some ((s : Int) + 1)) none).cps.toList = b.cps.toList.take s ++ [c] ++ b.cps.toList.drop (s + 1) := by
    show tl _ = _
    rw [tl_append, tl_append]
    show (cutS b none (some (s : Int))).cps.toList ++ [c] ++ (cutS b (some ((s : Int) + 1)) none).cps.toList = _
    rw [e1, e2]
  have l : b.cps.toList.length = b.length := Array.length_toList
  have el : (cutS b none (some (s : Int)) ++ (⟨#[c]⟩ : Str) ++ cutS b (some ((s : Int) + 1)) none).length = b.length := by
    have q := congrArg List.length et
    rw [List.length_append, List.length_append, List.length_take, List.length_drop, l, List.length_singleton] at q
    have q2 : (cutS b none (some (s : Int)) ++ (⟨#[c]⟩ : Str) ++ cutS b (some ((s : Int) + 1)) none).cps.toList.length = (cutS b none (some (s : Int)) ++ (⟨#[c]⟩ : Str) ++ cutS b (some ((s : Int) + 1)) none).length := Array.length_toList
    omega
  refine ⟨by omega, by omega, fun x hx => ?_⟩
  rw [et] at hx
  rcases List.mem_append.mp hx with hx | hx
  · rcases List.mem_append.mp hx with hx | hx
    · exact h3 x (List.mem_of_mem_take hx)
    · rw [List.mem_singleton.mp hx]
      exact hc
  · exact h3 x (List.mem_of_mem_drop hx)
theorem cutS_len (z : Str) (lo hi : Option Int) : (cutS z lo hi).length ≤ z.length := by
  have l : z.cps.toList.length = z.length := Array.length_toList
  have e : (cutS z lo hi).length = ((z.cps.toList.drop (HT.sIx z.length 0 lo)).take (HT.sIx z.length z.length hi - HT.sIx z.length 0 lo)).length := by
    unfold cutS Str.length
    rw [List.size_toArray]
  rw [e, List.length_take, List.length_drop]
  omega
theorem flat_map (zs : List Str) : (zs.map V.str).all flatV = true := by
  rw [List.all_eq_true]
  intro x hx
  obtain ⟨z, _, rfl⟩ := List.mem_map.mp hx
  rfl
theorem inV_str (z : Str) (zs : List Str) : inV (.str z) (zs.map V.str) = decide (z ∈ zs) := by
  unfold inV
  rw [List.any_map, Bool.eq_iff_iff, List.any_eq_true, decide_eq_true_eq]
  constructor
  · rintro ⟨x, hx, e⟩
    have e' : (x == z) = true := e
    rw [← eq_of_beq e']
    exact hx
  · intro h
    exact ⟨z, h, (show (z == z) = true from beq_self_eq_true z)⟩
section
variable {P : Program} {w : World} {K : Frag} {mg : Str → Option Value} {base : Heap}
def spWords : Sp := fun vs H Q _ => ∃ (a : Addr) (n : Nat) (many : Int), vs = [.ref a, .int many] ∧ PurseAt H a n ∧ n ≤ 800000000000 ∧ 1 ≤ many ∧ many ≤ 3 ∧
  ∀ (L : Addr) (zs : List Str) (H' : Hp), (∀ z ∈ zs, IsW z) → zs.Nodup → zs.length = many.toNat → KeepBut a H H' → H L = none → H' L = some (.lst (zs.map V.str)) → PurseAt H' a (n + 50) → Q (.ref L) H'
theorem nodup_len : ∀ (l D : List Str), l.Nodup → (∀ x ∈ l, x ∈ D) → l.length ≤ D.length
  | [], _, _, _ => Nat.zero_le _
  | x :: l, D, h, s => by
    obtain ⟨h1, h2⟩ := List.nodup_cons.mp h
    have hx := s x List.mem_cons_self
    have q := nodup_len l (D.erase x) h2 fun y hy => (List.mem_erase_of_ne (fun e => h1 (by rw [← e]; exact hy))).mpr (s y (List.mem_cons_of_mem _ hy))
    rw [List.length_erase_of_mem hx] at q
    have : 0 < D.length := List.length_pos_of_mem hx
    rw [List.length_cons]
    omega
def letters : List Str := (List.range 26).map fun j => (⟨#[97 + j]⟩ : Str)
theorem letters_nd : letters.Nodup := by decide +kernel
theorem abc_signs : signsV abc = letters.map V.str := by decide +kernel
theorem letters_w {y : Str} (h : y ∈ letters) : IsW y := by
  obtain ⟨j, hj, rfl⟩ := List.mem_map.mp h
  have := List.mem_range.mp hj
  refine ⟨by show 1 ≤ 1; omega, by show 1 ≤ 8; omega, fun c hc => ?_⟩
  have hc' : c ∈ [97 + j] := hc
  have := List.mem_singleton.mp hc'
  omega
/-- a letter that none of a few words is -/
theorem free_letter (zs : List Str) (h : zs.length ≤ 3) : ∃ y r, letters.filter (fun z => decide (z ∉ zs)) = y :: r := by
  cases e : letters.filter (fun z => decide (z ∉ zs)) with
  | cons y r => exact ⟨y, r, rfl⟩
  | nil =>
    have q := nodup_len letters zs letters_nd fun x hx => by
      refine Classical.byContradiction fun n => ?_
      have : x ∈ letters.filter (fun z => decide (z ∉ zs)) := List.mem_filter.mpr ⟨hx, decide_eq_true n⟩
      rw [e] at this
      cases this
    have : letters.length = 26 := by decide
    omega
theorem filter_snoc' {α : Type} (p : α → Bool) (l : List α) (i : Nat) (x : α) (h : l[i]? = some x) : (l.take (i + 1)).filter p = if p x then (l.take i).filter p ++ [x] else (l.take i).filter p := by
  rw [List.take_add_one, h, List.filter_append]
  by_cases c : p x <;> simp [c]
theorem nodup_snoc {zs : List Str} {y : Str} (h : zs.Nodup) (n : y ∉ zs) : (zs ++ [y]).Nodup := by
  rw [List.nodup_append]
  refine ⟨h, by simp, fun a ha b hb e => ?_⟩
  rw [List.mem_singleton.mp hb] at e
  exact n (e ▸ ha)
theorem ok_words {f fw fd_ fm : Addr} {fd fdw fdd fdm : FuncData} (T : Top K mg "_law_words" sLWords pLWords f fd) (TW : Top K mg "_law_word" sLWord ["purse"] fw fdw) (TD : Top K mg "_law_draw" sLDraw ["purse", "many"] fd_ fdd)
    (TM : Top K mg "_law_mixed" sLMixed ["seed", "spin", "at"] fm fdm) (B : Blt mg) : FnOk P w K mg base CX0 4 f fd pLWords spWords := by
  have GD : FnOk P w K mg base CX0 2 fd_ fdd ["purse", "many"] spDraw := ok_draw TD TM B
  have GW : FnOk P w K mg base CX0 3 fw fdw ["purse"] spWord := ok_word TW TD TM B
  refine T.F.ok scLWords (fun vs H Q E h => ?_) (fun cdv A outer s H vs Q E hr h => ?_)
  · obtain ⟨_, _, _, rfl, _⟩ := h
    rfl
  · obtain ⟨a, n, many, rfl, hp, hn, hm1, hm2, k⟩ := h
    have hr2 : Room 2 _ := hr.mono (by decide)
    refine ⟨_, (pss_cons (ps_par (i := 2) (j := 3) rfl scLWords.nd rfl rfl (by decide) rfl rfl (pa_cons (pe_call GW hr rfl TW.g TW.F.kp TW.b .nil pass0 (pa_cons (pv 0) pa_nil)) (pa_cons (pe_cmpR op_eq (pe_call GD hr2 rfl TD.g TD.F.kp TD.b .nil pass0 (pa_cons (pv 0) (pa_cons pe_int pa_nil))) pe_int (nomark _)) pa_nil)) (by rfl))
      (pss_cons (ps_asg (pe_tup (pa_cons (pe_call GD hr2 rfl TD.g TD.F.kp TD.b .nil pass0 (pa_cons (pv 0) (pa_cons (pe_callB call_len_str (by rfl) B.len PySem.boot_len (pa_cons (pv 2) pa_nil)) pa_nil))) (pa_cons (pe_lst pa_nil) pa_nil))) (pg_tup (by rfl) (pgs_cons (pg_name (i := 4) scLWords.nd rfl (Or.inl rfl)) (pgs_cons (pg_name (i := 5) scLWords.nd rfl (Or.inr rfl)) pgs_nil))))
      (pss_cons (ps_for PassesOwn.never rfl (pi_range1 (by rfl) B.range (pa_cons (pv 1) pa_nil)) (pg_name (i := 6) scLWords.nd rfl (Or.inl rfl))
        (pss_cons (ps_set (i := 7) scLWords.nd rfl (Or.inl rfl) (pe_op op_add_str (pe_op op_add_str (pe_slice sl_str (pv 2) po_none (po_some (pv 4))) (pe_ix ix_str pe_str (pe_call GD hr2 rfl TD.g TD.F.kp TD.b .nil pass0 (pa_cons (pv 0) (pa_cons pe_int pa_nil))) (fun _ _ => rfl))) (pe_slice sl_str (pv 2) (po_some (pe_op op_add (pv 4) pe_int)) po_none)))
      (pss_cons (ps_if (pt_not (pt_val (pv 3))) (pss_one (ps_set (i := 7) scLWords.nd rfl (Or.inl rfl) (pe_call GW hr rfl TW.g TW.F.kp TW.b .nil pass0 (pa_cons (pv 0) pa_nil)))) pss_nil)
      (pss_cons (ps_if (pt_cmpR op_in_seq (pv 7) (pv 5) (by rfl))
            (pss_one (ps_set (i := 7) scLWords.nd rfl (Or.inl rfl) (pe_ix ix_list (pe_lc (own := [("letter", 8)]) (g := gName 8) rfl scLWords.nd (pi_list (pe_callTy (call_listS rfl) (by rfl) B.list (by decide +kernel) (pa_cons pe_str pa_nil))) (blkOk_by (N := nLWords) (sc := defScope sLWords) (by decide +kernel)) (fun _ _ _ _ _ => pg_name (i := 8) scLWords.nd rfl (Or.inl rfl)) (fun _ _ _ _ _ => pts_one (pt_cmpR (show OpR _ _ (rIn K true) from op_notIn_seq) (pv 8) (pv 5) (by rfl))) (fun _ _ _ _ _ => (pv 8))) pe_int (fun _ _ => rfl)))) pss_nil)
      (pss_one (ps_expr (pe_bm PySem.F.plainAttrs_list PySem.F.slot_list_append PySem.F.type_list_append mt_append (pv 5) (pa_cons (pv 7) pa_nil))))))))
      (pss_one (ps_ret (pv 5)))))), ?_⟩
    refine ⟨_, rfl, a, n, rfl, hp, by omega, fun b H1 hb kb1 hp1 => ?_⟩
    obtain ⟨b1, b2, b3⟩ := id hb
    refine ⟨_, rfl, a, n + 10, 3, rfl, hp1, by omega, by decide, by decide, fun d2 H2 c0 c1 off2 hp2 => ⟨rfl, _, _, rfl, ?_⟩⟩
    have kb2 : KeepBut a H H2 := kb1.trans (.of_off off2)
    refine ⟨_, rfl, _, rfl, _, rfl, by rw [sizeLine_eq]; omega, a, n + 11, _, rfl, hp2, by omega, by omega, by omega, fun s0 H3 e0 e1 off3 hp3 => ?_⟩
    have kb3 : KeepBut a H H3 := kb2.trans (.of_off off3)
    obtain ⟨s, rfl⟩ := Int.eq_ofNat_of_zero_le e0
    refine ⟨by show 0 ≤ sizeLine; exact Nat.zero_le _, fun L hL => ⟨by show 2 ≤ sizeLine; rw [sizeLine_eq]; omega, fun T hT => ?_⟩⟩
    have nLa : a ≠ L := hp3.ne hL
    have nHL : H L = none := kb3.free hL nLa.symm
    have nLT : L ≠ T := ne_of_none upd_same hT
    have nT : H3 T = none := by
      rw [upd_ne nLT.symm] at hT
      exact hT
    have nHT : H T = none := kb3.free nT (hp3.ne nT).symm
    have hp4 := (hp3.upd (o := .lst []) nLa).upd (b := T) (o := .tup [.int (s : Nat), .ref L]) (hp3.ne nT)
    have kb4 : KeepBut a H (upd (upd H3 L (.lst [])) T (.tup [.int (s : Nat), .ref L])) := (kb3.upd_new nHL).upd_new nHT
    refine ⟨T, _, rfl, SqT.of upd_same, rfl, _, _, rfl, _, _, rfl, rfl, ?_⟩
    refine ⟨_, rfl, many, rfl, by omega, by omega, ?_⟩
    refine for_range (lo := 0) (n := many.toNat) (fun i σ H' => ∃ (v6 v7 v8 : Option V) (zs : List Str), σ = [some (.ref a), some (.int many), some (.str b), some (.bl (decide (V.int d2 = V.int 0))), some (.int (s : Nat)), some (.ref L), v6, v7, v8] ∧ (∀ z ∈ zs, IsW z) ∧ zs.Nodup ∧ zs.length = i ∧ KeepBut a H H' ∧ H' L = some (.lst (zs.map V.str)) ∧ PurseAt H' a (n + 12 + 11 * i))
      ⟨none, none, none, [], rfl, fun z hz => absurd hz (by simp), List.nodup_nil, rfl, kb4, by rw [upd_ne nLT, upd_same]; rfl, hp4.mono (by omega)⟩ ?_ ?_
    · rintro i σ H' hi ⟨v6, v7, v8, zs, rfl, hzs, nd, hl, kb', eL', hp'⟩
      have hi3 : i < 3 := by omega
      refine ⟨_, rfl, _, rfl, _, rfl, b, rfl, by rw [sizeLine_eq]; omega, _, rfl, a, _, 26, rfl, hp', by omega, by decide, by decide, fun d5 H5 g0 g1 off5 hp5 => ?_⟩
      obtain ⟨j, rfl⟩ := Int.eq_ofNat_of_zero_le g0
      have hj : j < 26 := by omega
      have eL5 : H5 L = some (.lst (zs.map V.str)) := by rw [off5 L nLa.symm]; exact eL'
      have kb5 : KeepBut a H H5 := kb'.trans (.of_off off5)
      have lc1 := cutS_len b none (some (s : Int))
      have lc2 := cutS_len b (some ((s : Int) + 1)) none
      have hz : IsW (cutS b none (some (s : Int)) ++ (⟨#[97 + j]⟩ : Str) ++ cutS b (some ((s : Int) + 1)) none) := isW_bent hb (by omega) (by omega)
      refine ⟨abc, _, _, rfl, rfl, by decide, atI_nat (abc_at j hj), _, _, rfl, rfl, by rw [sizeLine_eq]; show _ + 1 ≤ _; omega, ?_⟩
      refine ⟨_, rfl, _, rfl, _, _, rfl, rfl, _, rfl, b, rfl, by rw [sizeLine_eq]; omega, _, _, rfl, rfl, by rw [sizeLine_eq, strLen_append]; show _ + 1 + _ ≤ _; omega, ?_⟩
      generalize decide (V.int d2 = V.int 0) = nb
      cases nb with
      | false =>
        refine ⟨_, rfl, _, rfl, iteT ⟨_, rfl, a, _, rfl, hp5, by omega, fun z H6 hz6 kb56 hp6 => ?_⟩⟩
        have hz := hz6
        have kb6 : KeepBut a H H6 := kb5.trans kb56
        have eL3 : H6 L = some (.lst (zs.map V.str)) := kb56 _ _ eL5 nLa.symm
        have hp7 : PurseAt H6 a (n + 12 + 11 * (i + 1)) := hp6.mono (by omega)
        refine ⟨_, rfl, _, rfl, L, _, rfl, .inl (SqL.of eL3), rfl, flat_map zs, _, rfl, ?_⟩
        rw [inV_str]
        refine ite2 (fun hin => ?_) (fun hin => ?_)
        · refine ⟨abc, rfl, by rw [sizeLine_eq]; decide, fun p hpn => ⟨p, rfl, ⟨_, SqL.of upd_same⟩, fun D hD => ?_⟩⟩
          have nLp : L ≠ p := ne_of_none eL3 hpn
          have npD : p ≠ D := ne_of_none upd_same hD
          have nLD : L ≠ D := ne_of_none (show upd _ p _ L = _ by rw [upd_ne nLp]; exact eL3) hD
          have nap := hp7.ne hpn
          have naD := (hp7.upd (o := .lst (signsV abc)) nap).ne hD
          refine lc_list (K := K) (xs := signsV abc) (fun i H' => H' = upd (upd H6 p (.lst (signsV abc))) D (.lst (((letters.take i).filter fun z => decide (z ∉ zs)).map V.str))) rfl ?_ ?_ ?_
          · rintro i H' hi rfl
            exact SqL.of (by rw [upd_ne npD, upd_same])
          · rintro i x H' hx rfl
            rw [abc_signs, List.getElem?_map] at hx
            obtain ⟨y, hy, rfl⟩ := Option.map_eq_some_iff.mp hx
            refine ⟨rfl, _, rfl, _, rfl, L, _, rfl, .inl (SqL.of (by rw [upd_ne nLD, upd_ne nLp]; exact eL3)), rfl, flat_map zs, _, rfl, ?_⟩
            rw [inV_str, filter_snoc' _ _ _ _ hy]
            by_cases c : y ∈ zs
            · rw [decide_eq_true c, decide_eq_false (not_not_intro c)]
              exact iteF rfl
            · rw [decide_eq_false c, decide_eq_true c]
              refine iteT ⟨_, rfl, _, upd_same, ?_, ?_⟩
              · rw [List.length_map, sizeLine_eq]
                have := List.length_filter_le (fun z => decide (z ∉ zs)) (letters.take i)
                have l26 : letters.length = 26 := by decide
                rw [List.length_take, l26] at this
                omega
              · rw [upd_upd, if_pos rfl, List.map_append]
                rfl
          · rintro H' rfl
            obtain ⟨y, r, hy⟩ := free_letter zs (by omega)
            have l26 : (signsV abc).length = letters.length := by rw [abc_signs, List.length_map]
            rw [l26, List.take_length, hy]
            have hm : y ∈ letters.filter (fun z => decide (z ∉ zs)) := by rw [hy]; exact List.mem_cons_self
            obtain ⟨hm1, hm2⟩ := List.mem_filter.mp hm
            have ny : y ∉ zs := of_decide_eq_true hm2
            have eL7 : upd (upd H6 p (.lst (signsV abc))) D (.lst ((y :: r).map V.str)) L = some (.lst (zs.map V.str)) := by rw [upd_ne nLD, upd_ne nLp]; exact eL3
            refine ⟨D, _, _, _, rfl, rfl, SqL.of upd_same, atI_nat (j := 0) rfl, ?_⟩
            refine ⟨_, rfl, .inl ⟨rfl, _, SqL.of eL7⟩, _, rfl, L, _, _, rfl, rfl, eL7, by rw [List.length_map, sizeLine_eq]; omega, ?_⟩
            refine ⟨_, _, _, zs ++ [y], rfl, fun z hz' => (List.mem_append.mp hz').elim (hzs z) fun q => (List.mem_singleton.mp q) ▸ letters_w hm1, nodup_snoc nd ny, by rw [List.length_append, hl]; rfl, ?_, by rw [upd_same, List.map_append]; rfl, ?_⟩
            · exact ((kb6.upd_new (kb6.free hpn nap.symm)).upd_new (kb6.free (by rw [upd_ne npD.symm] at hD; exact hD) naD.symm)).upd_new nHL
            · exact (((hp7.upd nap).upd naD).upd nLa).mono (Nat.le_refl _)
        · refine ⟨_, rfl, .inl ⟨rfl, _, SqL.of eL3⟩, _, rfl, L, _, _, rfl, rfl, eL3, by rw [List.length_map, sizeLine_eq]; omega, ?_⟩
          refine ⟨_, _, _, zs ++ [_], rfl, fun z hz' => (List.mem_append.mp hz').elim (hzs z) fun q => (List.mem_singleton.mp q) ▸ hz, nodup_snoc nd (of_decide_eq_false (by simpa using hin)), by rw [List.length_append, hl]; rfl, kb6.upd_new nHL, by rw [upd_same, List.map_append]; rfl, hp7.upd nLa⟩
      | true =>
        have kb6 := kb5
        have eL3 := eL5
        have hp7 : PurseAt H5 a (n + 12 + 11 * (i + 1)) := hp5.mono (by omega)
        refine ⟨_, rfl, _, rfl, iteF ?_⟩
        refine ⟨_, rfl, _, rfl, L, _, rfl, .inl (SqL.of eL3), rfl, flat_map zs, _, rfl, ?_⟩
        rw [inV_str]
        refine ite2 (fun hin => ?_) (fun hin => ?_)
        · refine ⟨abc, rfl, by rw [sizeLine_eq]; decide, fun p hpn => ⟨p, rfl, ⟨_, SqL.of upd_same⟩, fun D hD => ?_⟩⟩
          have nLp : L ≠ p := ne_of_none eL3 hpn
          have npD : p ≠ D := ne_of_none upd_same hD
          have nLD : L ≠ D := ne_of_none (show upd _ p _ L = _ by rw [upd_ne nLp]; exact eL3) hD
          have nap := hp7.ne hpn
          have naD := (hp7.upd (o := .lst (signsV abc)) nap).ne hD
          refine lc_list (K := K) (xs := signsV abc) (fun i H' => H' = upd (upd H5 p (.lst (signsV abc))) D (.lst (((letters.take i).filter fun z => decide (z ∉ zs)).map V.str))) rfl ?_ ?_ ?_
          · rintro i H' hi rfl
            exact SqL.of (by rw [upd_ne npD, upd_same])
          · rintro i x H' hx rfl
            rw [abc_signs, List.getElem?_map] at hx
            obtain ⟨y, hy, rfl⟩ := Option.map_eq_some_iff.mp hx
            refine ⟨rfl, _, rfl, _, rfl, L, _, rfl, .inl (SqL.of (by rw [upd_ne nLD, upd_ne nLp]; exact eL3)), rfl, flat_map zs, _, rfl, ?_⟩
            rw [inV_str, filter_snoc' _ _ _ _ hy]
            by_cases c : y ∈ zs
            · rw [decide_eq_true c, decide_eq_false (not_not_intro c)]
              exact iteF rfl
            · rw [decide_eq_false c, decide_eq_true c]
              refine iteT ⟨_, rfl, _, upd_same, ?_, ?_⟩
              · rw [List.length_map, sizeLine_eq]
                have := List.length_filter_le (fun z => decide (z ∉ zs)) (letters.take i)
                have l26 : letters.length = 26 := by decide
                rw [List.length_take, l26] at this
                omega
              · rw [upd_upd, if_pos rfl, List.map_append]
                rfl
          · rintro H' rfl
            obtain ⟨y, r, hy⟩ := free_letter zs (by omega)
            have l26 : (signsV abc).length = letters.length := by rw [abc_signs, List.length_map]
            rw [l26, List.take_length, hy]
            have hm : y ∈ letters.filter (fun z => decide (z ∉ zs)) := by rw [hy]; exact List.mem_cons_self
            obtain ⟨hm1, hm2⟩ := List.mem_filter.mp hm
            have ny : y ∉ zs := of_decide_eq_true hm2
            have eL7 : upd (upd H5 p (.lst (signsV abc))) D (.lst ((y :: r).map V.str)) L = some (.lst (zs.map V.str)) := by rw [upd_ne nLD, upd_ne nLp]; exact eL3
            refine ⟨D, _, _, _, rfl, rfl, SqL.of upd_same, atI_nat (j := 0) rfl, ?_⟩
            refine ⟨_, rfl, .inl ⟨rfl, _, SqL.of eL7⟩, _, rfl, L, _, _, rfl, rfl, eL7, by rw [List.length_map, sizeLine_eq]; omega, ?_⟩
            refine ⟨_, _, _, zs ++ [y], rfl, fun z hz' => (List.mem_append.mp hz').elim (hzs z) fun q => (List.mem_singleton.mp q) ▸ letters_w hm1, nodup_snoc nd ny, by rw [List.length_append, hl]; rfl, ?_, by rw [upd_same, List.map_append]; rfl, ?_⟩
            · exact ((kb6.upd_new (kb6.free hpn nap.symm)).upd_new (kb6.free (by rw [upd_ne npD.symm] at hD; exact hD) naD.symm)).upd_new nHL
            · exact (((hp7.upd nap).upd naD).upd nLa).mono (Nat.le_refl _)
        · refine ⟨_, rfl, .inl ⟨rfl, _, SqL.of eL3⟩, _, rfl, L, _, _, rfl, rfl, eL3, by rw [List.length_map, sizeLine_eq]; omega, ?_⟩
          refine ⟨_, _, _, zs ++ [_], rfl, fun z hz' => (List.mem_append.mp hz').elim (hzs z) fun q => (List.mem_singleton.mp q) ▸ hz, nodup_snoc nd (of_decide_eq_false (by simpa using hin)), by rw [List.length_append, hl]; rfl, kb6.upd_new nHL, by rw [upd_same, List.map_append]; rfl, hp7.upd nLa⟩
    · rintro σ H' ⟨v6, v7, v8, zs, rfl, hzs, nd, hl, kb', eL', hp'⟩
      exact ⟨_, rfl, k L zs H' hzs nd hl kb' nHL eL' (hp'.mono (by omega))⟩
end
end Q4

namespace Q4
open PySem PySem.Spec PyProof.Rows L2 KT
open PySem.W (Frag)
structure Plains (zs : List Str) : Prop where
  so : sortedS zs = true
  nd : zs.Nodup
  w : ∀ z ∈ zs, IsW z
  l1 : 1 ≤ zs.length
  l3 : zs.length ≤ 3
def isWB (z : Str) : Bool := decide (1 ≤ z.length) && decide (z.length ≤ 8) && z.cps.toList.all fun c => decide (97 ≤ c) && decide (c ≤ 122)
theorem isWB_ok {z : Str} (h : isWB z = true) : IsW z := by
  unfold isWB at h
  simp only [Bool.and_eq_true, decide_eq_true_eq, List.all_eq_true] at h
  exact ⟨h.1.1, h.1.2, h.2⟩
def plainsB (zs : List Str) : Bool := sortedS zs && decide zs.Nodup && zs.all isWB && decide (1 ≤ zs.length) && decide (zs.length ≤ 3)
theorem plainsB_ok {zs : List Str} (h : plainsB zs = true) : Plains zs := by
  unfold plainsB at h
  simp only [Bool.and_eq_true, decide_eq_true_eq, List.all_eq_true] at h
  exact ⟨h.1.1.1.1, h.1.1.1.2, fun z hz => isWB_ok (h.1.1.2 z hz), h.1.2, h.2⟩
def odds : List (List Str) := [["cut", "is", "then"], ["athens", "over", "then"], ["end", "over", "under"], ["back", "is", "on"]]
theorem odds_ok : (odds.all fun zs => [1, 2, 3].all fun m => plainsB (zs.take m)) = true := by decide +kernel
section
variable {P : Program} {w : World} {K : Frag} {mg : Str → Option Value} {base : Heap}
def spPlains : Sp := fun vs H Q _ => ∃ (a : Addr) (n : Nat) (most : Int), vs = [.ref a, .int most] ∧ PurseAt H a n ∧ n ≤ 700000000000 ∧ 1 ≤ most ∧ most ≤ 3 ∧
  ∀ (L : Addr) (zs : List Str) (H' : Hp), Plains zs → (zs.length : Int) ≤ most → KeepBut a H H' → H L = none → H' L = some (.lst (zs.map V.str)) → PurseAt H' a (n + 60) → Q (.ref L) H'
/-- what the draws stand upon -/
structure TDs (K : Frag) (mg : Str → Option Value) (fd_ fm fw fws fo : Addr) (fdd fdm fdw fdws fdo : FuncData) : Prop where
  TD : Top K mg "_law_draw" sLDraw ["purse", "many"] fd_ fdd
  TM : Top K mg "_law_mixed" sLMixed ["seed", "spin", "at"] fm fdm
  TW : Top K mg "_law_word" sLWord ["purse"] fw fdw
  TWs : Top K mg "_law_words" sLWords pLWords fws fdws
  TO : Top K mg "_law_one_of" sLOneOf ["purse", "some"] fo fdo
  B : Blt mg
end
end Q4

namespace Q4
open PySem PySem.Spec PyProof.Rows L2 KT
open PySem.W (Frag)
def Ty.words : Ty → List Str
  | .w z => [z]
  | .n _ a b => a.words ++ b.words
theorem TK.of_keepBut {a : Addr} {n : Nat} {H H' : Hp} (k : KeepBut a H H') (p : PurseAt H a n) : TK H H' := fun q xs e => k q _ e fun z => by
  obtain ⟨_, _, _, _, e', _⟩ := p
  rw [z, e'] at e
  cases e
section
variable {P : Program} {w : World} {K : Frag} {mg : Str → Option Value} {base : Heap}
def spKind (d : Nat) : Sp := fun vs H Q _ => ∃ (a L : Addr) (n m : Nat) (zs : List Str), vs = [.ref a, .ref L, .int m] ∧ PurseAt H a n ∧ n + 3 * m ≤ 600000000000 ∧ L ≠ a ∧ H L = some (.lst (zs.map V.str)) ∧ Plains zs ∧ m ≤ d ∧
  ∀ (x : V) (t : Ty) (H' : Hp), TyAt H' x t → t.signs = m → (∀ z ∈ t.words, z ∈ zs) → KeepBut a H H' → PurseAt H' a (n + 3 * m + 1) → Q x H'

end
end Q4

namespace Q4
open PySem PySem.Spec PyProof.Rows L2 KT
open PySem.W (Frag)
/-! ### data: texts, numbers, None, tuples -/
/-- a text that may be met -/
def TxtOk (z : Str) : Prop := PyData.strOk z = true ∧ z.length ≤ 100
inductive D
  | s (z : Str)
  | i (n : Int)
  | o
  | t (l : List D)
mutual
inductive DAt (H : Hp) : V → D → Prop
  | s {z : Str} : TxtOk z → DAt H (.str z) (.s z)
  | i (n : Int) : DAt H (.int n) (.i n)
  | o : DAt H .non .o
  | t {p : Addr} {xs : List V} {ds : List D} : H p = some (.tup xs) → DsAt H xs ds → DAt H (.ref p) (.t ds)
inductive DsAt (H : Hp) : List V → List D → Prop
  | nil : DsAt H [] []
  | cons {v : V} {vs : List V} {d : D} {ds : List D} : DAt H v d → DsAt H vs ds → DsAt H (v :: vs) (d :: ds)
end
mutual
theorem DAt.mono {H H' : Hp} (k : TK H H') : ∀ {d : D} {v : V}, DAt H v d → DAt H' v d
  | .s _, _, .s h => .s h
  | .i _, _, .i n => .i n
  | .o, _, .o => .o
  | .t _, _, .t e h => .t (k _ _ e) (DsAt.mono k h)
theorem DsAt.mono {H H' : Hp} (k : TK H H') : ∀ {ds : List D} {vs : List V}, DsAt H vs ds → DsAt H' vs ds
  | [], _, .nil => .nil
  | _ :: _, _, .cons h r => .cons (DAt.mono k h) (DsAt.mono k r)
end
theorem DsAt.length {H : Hp} : ∀ {ds : List D} {vs : List V}, DsAt H vs ds → vs.length = ds.length
  | _, _, .nil => rfl
  | _, _, .cons _ r => by rw [List.length_cons, List.length_cons, r.length]
theorem DsAt.append {H : Hp} : ∀ {ds es : List D} {vs us : List V}, DsAt H vs ds → DsAt H us es → DsAt H (vs ++ us) (ds ++ es)
  | _, _, _, _, .nil, h => h
  | _, _, _, _, .cons a r, h => .cons a (r.append h)
theorem DsAt.at_ {H : Hp} : ∀ {ds : List D} {vs : List V}, DsAt H vs ds → ∀ {i : Nat} {v : V}, vs[i]? = some v → ∃ d, ds[i]? = some d ∧ DAt H v d
  | _, _, .nil, i, v, e => by simp at e
  | _, _, .cons h r, 0, v, e => by
    obtain rfl := Option.some.inj (show some _ = some v from e)
    exact ⟨_, rfl, h⟩
  | _, _, .cons h r, i + 1, v, e => r.at_ (i := i) (by simpa using e)
mutual
def D.py : D → PyData
  | .s z => .str z
  | .i n => .int n
  | .o => .none
  | .t l => .tuple (pyAll l)
def pyAll : List D → List PyData
  | [] => []
  | d :: r => d.py :: pyAll r
end
mutual
def D.dep : D → Nat
  | .s _ => 0
  | .i _ => 0
  | .o => 0
  | .t l => depAll l + 1
def depAll : List D → Nat
  | [] => 0
  | d :: r => max d.dep (depAll r)
end
mutual
def D.size : D → Nat
  | .s _ => 1
  | .i _ => 1
  | .o => 1
  | .t l => sizeAll l + 1
def sizeAll : List D → Nat
  | [] => 0
  | d :: r => d.size + sizeAll r
end
mutual
theorem DAt.py {K : Frag} {H : Hp} : ∀ {d : D} {v : V}, DAt H v d → Dp K H v d.py ∧ d.py.canLay0 = true ∧ d.py.depth = d.dep
  | .s z, _, .s h => ⟨.str _, by simp only [D.py, PyData.canLay0]; exact h.1, by simp only [D.py, PyData.depth, D.dep]⟩
  | .i _, _, .i n => ⟨.int _, by simp only [D.py, PyData.canLay0], by simp only [D.py, PyData.depth, D.dep]⟩
  | .o, _, .o => ⟨.non, by simp only [D.py, PyData.canLay0], by simp only [D.py, PyData.depth, D.dep]⟩
  | .t l, _, .t e h => by
    obtain ⟨h1, h2, h3⟩ := DsAt.py (K := K) h
    exact ⟨.tup (SqT.of e) h1, by simp only [D.py, PyData.canLay0]; exact h2, by simp only [D.py, PyData.depth, D.dep, h3]⟩
theorem DsAt.py {K : Frag} {H : Hp} : ∀ {ds : List D} {vs : List V}, DsAt H vs ds → DpAll K H vs (pyAll ds) ∧ PyData.canLayAll0 (pyAll ds) = true ∧ PyData.depthAll (pyAll ds) = depAll ds
  | [], _, .nil => ⟨.nil, by simp only [pyAll, PyData.canLayAll0], by simp only [pyAll, PyData.depthAll, depAll]⟩
  | _ :: _, _, .cons h r => by
    obtain ⟨a1, a2, a3⟩ := DAt.py (K := K) h
    obtain ⟨b1, b2, b3⟩ := DsAt.py (K := K) r
    exact ⟨.cons a1 b1, by simp only [pyAll, PyData.canLayAll0, a2, b2, Bool.and_self], by simp only [pyAll, PyData.depthAll, depAll, a3, b3]⟩
end
theorem DAt.shaped {K : Frag} {H : Hp} {d : D} {v : V} (h : DAt H v d) (l : d.dep ≤ 64) : SeqAt.shaped d.py = true := by
  obtain ⟨_, h2, h3⟩ := DAt.py (K := K) h
  unfold SeqAt.shaped
  rw [h2, h3, Bool.true_and]
  exact decide_eq_true l
theorem D.size_pos (d : D) : 1 ≤ d.size := by cases d <;> simp [D.size]
/-! ### types as data -/
def Ty.d : Ty → D
  | .w z => .s z
  | .n g a b => .t [.s g.str, a.d, b.d]
theorem isW_ok {z : Str} (h : IsW z) : TxtOk z := by
  refine ⟨?_, by have := h.2.1; omega⟩
  unfold PyData.strOk
  simp only [List.all_eq_true, Array.all_eq_true_iff_forall_mem, decide_eq_true_eq]
  intro c hc
  have := h.2.2 c (by simpa using hc)
  omega
theorem TyAt.d {H : Hp} {v : V} {t : Ty} (h : TyAt H v t) : DAt H v t.d := by
  induction h with
  | w h => exact .s (isW_ok h)
  | @n p g x y a b e _ _ i j => exact .t e (.cons (.s (by cases g <;> exact ⟨by decide +kernel, by decide +kernel⟩)) (.cons i (.cons j .nil)))
def sgOf (z : Str) : Option Sg := if z = "over" then some .ov else if z = "then" then some .th else if z = "under" then some .un else none
theorem sgOf_some {z : Str} {g : Sg} (h : sgOf z = some g) : z = g.str := by
  unfold sgOf at h
  split at h
  · cases h; assumption
  · split at h
    · cases h; assumption
    · split at h
      · cases h; assumption
      · cases h
theorem sgOf_str (g : Sg) : sgOf g.str = some g := by cases g <;> decide +kernel
end Q4

namespace Q4
open PySem PySem.Spec PyProof.Rows L2 KT
open PySem.W (Frag)
theorem isWB_of {z : Str} (h : IsW z) : isWB z = true := by
  unfold isWB
  simp only [Bool.and_eq_true, decide_eq_true_eq, List.all_eq_true]
  exact ⟨⟨h.1, h.2.1⟩, h.2.2⟩
def mkTy (l : List D) (r : List (Option Ty)) : Option Ty := match l, r with
  | [.s g, _, _], [_, some a, some b] => (sgOf g).map fun g => .n g a b
  | _, _ => none
mutual
def D.ty : D → Option Ty
  | .s z => if isWB z = true then some (.w z) else none
  | .i _ => none
  | .o => none
  | .t l => mkTy l (tyAll l)
def tyAll : List D → List (Option Ty)
  | [] => []
  | d :: r => d.ty :: tyAll r
end
def Ty.wok : Ty → Prop
  | .w z => IsW z
  | .n _ a b => a.wok ∧ b.wok
theorem TyAt.wok {H : Hp} {v : V} {t : Ty} (h : TyAt H v t) : t.wok := by
  induction h with
  | w h => exact h
  | n _ _ _ i j => exact ⟨i, j⟩
theorem Ty.ty_d (t : Ty) (h : t.wok) : t.d.ty = some t := by
  induction t with
  | w z =>
    simp only [Ty.d, D.ty]
    rw [if_pos (isWB_of h)]
  | n g a b i j => simp only [Ty.d, D.ty, tyAll, mkTy, i h.1, j h.2, sgOf_str, Option.map_some]
theorem mkTy_inv {l : List D} {r : List (Option Ty)} {t : Ty} (h : mkTy l r = some t) : ∃ g x y a b, l = [.s (Sg.str g), x, y] ∧ (∃ o, r = [o, some a, some b]) ∧ t = .n g a b := by
  unfold mkTy at h
  split at h
  · obtain ⟨g, h1, h2⟩ := Option.map_eq_some_iff.mp h
    exact ⟨g, _, _, _, _, by rw [sgOf_some h1], ⟨_, rfl⟩, h2.symm⟩
  · cases h
mutual
/-- a datum that is a type lies in the heap as that type -/
theorem DAt.ty {H : Hp} : ∀ {d : D} {v : V} {t : Ty}, DAt H v d → d.ty = some t → TyAt H v t
  | .s z, _, t, .s _, h => by
    simp only [D.ty] at h
    split at h
    · rename_i q
      cases h
      exact .w (isWB_ok q)
    · cases h
  | .i _, _, t, .i _, h => by simp only [D.ty] at h; cases h
  | .o, _, t, .o, h => by simp only [D.ty] at h; cases h
  | .t l, _, t, .t e hs, h => by
    simp only [D.ty] at h
    obtain ⟨g, x, y, a, b, rfl, ⟨o, hr⟩, rfl⟩ := mkTy_inv h
    simp only [tyAll] at hr
    have q := DsAt.ty hs
    cases hs with
    | cons h1 hs => cases hs with
      | cons h2 hs => cases hs with
        | cons h3 hs => cases hs with
          | nil =>
            cases h1
            injection hr with _ hr
            injection hr with e1 hr
            injection hr with e2 _
            exact .n e (q 1 _ _ _ rfl rfl e1) (q 2 _ _ _ rfl rfl e2)
theorem DsAt.ty {H : Hp} : ∀ {ds : List D} {vs : List V}, DsAt H vs ds → ∀ (j : Nat) (v : V) (d : D) (t : Ty), vs[j]? = some v → ds[j]? = some d → d.ty = some t → TyAt H v t
  | [], _, .nil, j, v, d, t, e, _, _ => by simp at e
  | _ :: _, _, .cons h r, 0, v, d, t, e1, e2, e3 => by
    obtain rfl := Option.some.inj (show some _ = some v from e1)
    obtain rfl := Option.some.inj (show some _ = some d from e2)
    exact DAt.ty h e3
  | _ :: _, _, .cons h r, j + 1, v, d, t, e1, e2, e3 => DsAt.ty r j v d t (by simpa using e1) (by simpa using e2) e3
end
/-! ### what a derivation tells -/
abbrev Told := List Ty × Ty
def madeO : Told → Option Told
  | (row, goal) => if row.length < 2 then none else some (row.dropLast, .n .ov goal (row.getLastD (.w "")))
def madeU : Told → Option Told
  | (a :: b :: r, goal) => some (b :: r, .n .un a goal)
  | _ => none
def thenM (x y : Told) : Told := (x.1 ++ y.1, .n .th x.2 y.2)
def usedAt (nm : Str) (p : Int) (x y : Told) : Option Told :=
  if 0 ≤ p then
    match y.1[p.toNat]? with
    | none => none
    | some k =>
      if nm = "over used" then some (y.1.take p.toNat ++ [.n .ov k x.2] ++ x.1 ++ y.1.drop (p.toNat + 1), y.2)
      else if nm = "under used" then some (y.1.take p.toNat ++ x.1 ++ [.n .un x.2 k] ++ y.1.drop (p.toNat + 1), y.2)
      else if k = x.2 then some (y.1.take p.toNat ++ x.1 ++ y.1.drop (p.toNat + 1), y.2) else none
  else none
def thenU (p : Int) (y : Told) : Option Told :=
  if 0 ≤ p then
    match y.1[p.toNat]?, y.1[p.toNat + 1]? with
    | some a, some b => some (y.1.take p.toNat ++ [.n .th a b] ++ y.1.drop (p.toNat + 2), y.2)
    | _, _ => none
  else none
def both (f : Told → Told → Option Told) : Option Told → Option Told → Option Told
  | some x, some y => f x y
  | _, _ => none
def placed (nm : Str) : Bool := decide (nm = "over used") || decide (nm = "under used") || decide (nm = "cut")
def tellOf (l : List D) (r : List (Option Told)) : Option Told := match l, r with
  | [.s nm, x], [_, rx] => if nm = "is" then x.ty.map fun k => ([k], k) else if nm = "over made" then rx.bind madeO else if nm = "under made" then rx.bind madeU else none
  | [.s nm, x, _], [_, rx, ry] => if nm = "then made" then both (fun a b => some (thenM a b)) rx ry else if nm = "then used" then (match x with | .i p => ry.bind (thenU p) | _ => none) else none
  | [.s nm, .i p, _, _], [_, _, rx, ry] => if placed nm = true then both (usedAt nm p) rx ry else none
  | _, _ => none
mutual
def D.tl : D → Option Told
  | .s _ => none
  | .i _ => none
  | .o => none
  | .t l => tellOf l (tlAll l)
def tlAll : List D → List (Option Told)
  | [] => []
  | d :: r => d.tl :: tlAll r
end
/-! ### the form of a knot -/
def D.formed : D → Bool
  | .t [.s nm, x] => if nm = "is" then x.ty.isSome else decide (nm = "over made") || decide (nm = "under made")
  | .t [.s nm, x, _] => decide (nm = "then made") || (decide (nm = "then used") && match x with | .i p => decide (0 ≤ p) | _ => false)
  | .t [.s nm, x, _, _] => placed nm && match x with | .i p => decide (0 ≤ p) | _ => false
  | _ => false
def D.parts : D → List D
  | .t [.s nm, x] => if nm = "is" then [] else [x]
  | .t [.s nm, x, y] => if nm = "then used" then [y] else [x, y]
  | .t [_, _, x, y] => [x, y]
  | _ => []
def allKOf (l : List D) (r : List Bool) : Bool := (D.t l).formed && match l, r with
  | [.s nm, _], [_, x] => if nm = "is" then true else x
  | [.s nm, _, _], [_, x, y] => if nm = "then used" then y else x && y
  | [_, _, _, _], [_, _, x, y] => x && y
  | _, _ => true
mutual
/-- it and all parts in it have a knot's form -/
def D.allK : D → Bool
  | .s _ => false
  | .i _ => false
  | .o => false
  | .t l => allKOf l (allKs l)
def allKs : List D → List Bool
  | [] => []
  | d :: r => d.allK :: allKs r
end
def nodesOf (l : List D) (r : List (List D)) : List D := D.t l :: match l, r with
  | [.s nm, _], [_, x] => if nm = "is" then [] else x
  | [.s nm, _, _], [_, x, y] => if nm = "then used" then y else y ++ x
  | [_, _, _, _], [_, _, x, y] => y ++ x
  | _, _ => []
mutual
def D.nodes : D → List D
  | .s z => [.s z]
  | .i n => [.i n]
  | .o => [.o]
  | .t l => nodesOf l (nodesLs l)
def nodesLs : List D → List (List D)
  | [] => []
  | d :: r => d.nodes :: nodesLs r
end
end Q4

/-! Sets of texts: set(a list of texts), sorted of it. -/
namespace KT
open PySem PySem.Spec PyProof.Rows L2
theorem nodup_len : ∀ (l D : List Str), l.Nodup → (∀ x ∈ l, x ∈ D) → l.length ≤ D.length
  | [], _, _, _ => Nat.zero_le _
  | x :: l, D, h, s => by
    obtain ⟨h1, h2⟩ := List.nodup_cons.mp h
    have hx := s x List.mem_cons_self
    have q := nodup_len l (D.erase x) h2 fun y hy => (List.mem_erase_of_ne (fun e => h1 (by rw [← e]; exact hy))).mpr (s y (List.mem_cons_of_mem _ hy))
    rw [List.length_erase_of_mem hx] at q
    have : 0 < D.length := List.length_pos_of_mem hx
    rw [List.length_cons]
    omega
def keyS (e : Int × Value) : Str := match e.2 with
  | .str k _ => k
  | _ => Str.empty
/-- the texts of ks (some of them told twice) are in the set at a -/
def SetG (P : Program) (w : World) (h : Heap) (a : Addr) (ks : List Str) : Prop :=
  ∃ o es ep t, h.get? a = some o ∧ o.ExactSet ∧ o.data = .set es ep t ∧ (∀ e ∈ es.toList, ∃ k tk, e.2 = Value.str k tk ∧ e.1 = (PySem.strKind P w).hash k) ∧ (es.toList.map keyS).Nodup ∧ (∀ k, k ∈ es.toList.map keyS ↔ k ∈ ks) ∧
    es.size < scanBound ∧ t.fits es.size = true ∧ L2.Ris t.place.toList ∧ (w.params.followText "set-order" = true ∨ t.led = true)
section
variable {P : Program} {w : World} {h h' : Heap} {a : Addr} {ks : List Str}
theorem SetG.at_ (R : SetG P w h a ks) (k : ∀ o, h.get? a = some o → h'.get? a = some o) : SetG P w h' a ks := by
  obtain ⟨o, es, ep, t, ho, r⟩ := R
  exact ⟨o, es, ep, t, k o ho, r⟩
theorem els_of {l : List (Int × Value)} (g : ∀ e ∈ l, ∃ k tk, e.2 = Value.str k tk ∧ e.1 = (PySem.strKind P w).hash k) : ElemsOf (PySem.strKind P w) l := fun e he => by
  obtain ⟨k, tk, h1, h2⟩ := g e he
  exact ⟨⟨k, by rw [h1]; exact strKind_is P w k tk, h2⟩, by rw [h1] <;> rfl⟩
theorem is_key {e : Int × Value} (g : ∃ k tk, e.2 = Value.str k tk ∧ e.1 = (PySem.strKind P w).hash k) (k : Str) : (PySem.strKind P w).is k e.2 = true ↔ keyS e = k := by
  obtain ⟨k0, tk, h1, _⟩ := g
  have hk : (PySem.strKind P w).is k0 e.2 = true := by rw [h1]; exact strKind_is P w k0 tk
  have e0 : keyS e = k0 := by unfold keyS; rw [h1]
  rw [e0]
  constructor
  · intro z
    exact (PySem.strKind P w).inj _ _ _ hk z
  · intro z
    rw [← z]
    exact hk
end
section
variable {P : Program} {w : World} {A : Around} {E : Value → Shared → Prop} {s : Shared} {a : Addr} {ks : List Str}
/-- the end of an addition: the new table is stored, and laid anew where it is too full -/
theorem setG_tail {g : Bool → Sem Unit} (hg : ∀ (b : Bool) (s₁ : Shared) (Q' : Unit → Shared → Prop), Q' () s₁ → wpAny (model P w) A (g b) Q' E s₁)
    {o : Obj} {es : Array (Int × Value)} {ep : Nat} {t : SetTable} (ho : s.heap.get? a = some o) (hex : o.ExactSet) (hd : o.data = .set es ep t)
    {es1 : Array (Int × Value)} {t2 : SetTable} {ks' : List Str} (new : ∀ h' o' es2 ep2 t3, h'.get? a = some o' → o'.ExactSet → o'.data = .set es2 ep2 t3 → es2.toList.Perm es1.toList → t3.fits es2.size = true → L2.Ris t3.place.toList → (w.params.followText "set-order" = true ∨ t3.led = true) → SetG P w h' a ks')
    (hb1 : es1.size < scanBound) (hf2 : t2.fits es1.size = true) (hr : L2.Ris t2.place.toList) (hl : w.params.followText "set-order" = true ∨ t2.led = true) {wasDummy : Bool} {R : Option Bool → Shared → Prop}
    (hR : ∀ h', Heap.SameBut a s.heap h' → SetG P w h' a ks' → R (some true) { s with heap := h' }) :
    wpAny (model P w) A (do
        storeSet a es1 t2
        if (!wasDummy && t2.tooFull) = true then do
            g (relayAll t2 es1 (SetTable.grown es1.size)).2.2
            storeSet a (relayAll t2 es1 (SetTable.grown es1.size)).1 (relayAll t2 es1 (SetTable.grown es1.size)).2.1
            pure (some true)
          else pure (some true)) R E s := by
  refine wpAny_bind (wpAny_storeSet_of ho hd ?_ (fits_of_scanBound hb1))
  have ho1 := store_at (es' := es1) (t' := t2) ho hd
  have sb1 := Heap.SameBut.update s.heap a (Obj.putSet es1 t2)
  split
  · have pm := relayAll_perm t2 es1 (SetTable.grown es1.size)
    have hf3 := relayAll_fits t2 es1 (SetTable.grown es1.size)
    have hr3 := relayAll_ris t2 es1 (SetTable.grown es1.size)
    have hl3 := relayAll_led t2 es1 (SetTable.grown es1.size)
    generalize relayAll t2 es1 (SetTable.grown es1.size) = Z at pm hf3 hr3 hl3 ⊢
    obtain ⟨es2, t3, gave⟩ := Z
    dsimp only at pm hf3 hr3 hl3 ⊢
    have hsz : es2.size = es1.size := by rw [← Array.length_toList, pm.length_eq, Array.length_toList]
    refine wpAny_bind (hg _ _ _ ?_)
    refine wpAny_bind (wpAny_storeSet_of ho1 rfl ?_ (fits_of_scanBound (by rw [hsz]; exact hb1)))
    have ho2 := store_at (es' := es2) (t' := t3) ho1 rfl
    exact wpAny_pure (hR _ (sb1.trans (Heap.SameBut.update _ a _)) (new _ _ es2 _ t3 ho2 hex rfl pm hf3 hr3 (hl.imp id fun z => by rw [hl3]; exact z)))
  · exact wpAny_pure (hR _ sb1 (new _ _ es1 _ t2 ho1 hex rfl (.refl _) hf2 hr hl))
theorem setG_add {k : Str} {tk : Tok} {Q : Bool → Shared → Prop} (R : SetG P w s.heap a ks) (room : ks.length + 2 < scanBound)
    (hQ : ∀ h' b, Heap.SameBut a s.heap h' → SetG P w h' a (ks ++ [k]) → Q b { s with heap := h' }) :
    wpAny (model P w) A (setAddHashed a (.str k tk) ((PySem.strKind P w).hash k)) Q E s := by
  obtain ⟨o, es, ep, t, ho, hex, hd, g, nd, hm, hb, hf, hr, hl⟩ := R
  have hkey : (PySem.strKind P w).is k (.str k tk) = true := strKind_is P w k tk
  have hsc : (Value.str k tk).scannable = true := rfl
  have hel : ElemsOf (PySem.strKind P w) es.toList := els_of g
  have hkm : k ∈ es.toList.map keyS ↔ ∃ e ∈ es.toList, (PySem.strKind P w).is k e.2 = true := by
    rw [List.mem_map]
    exact ⟨fun ⟨e, he, q⟩ => ⟨e, he, (is_key (g e he) k).2 q⟩, fun ⟨e, he, q⟩ => ⟨e, he, (is_key (g e he) k).1 q⟩⟩
  unfold setAddHashed setAddHashedIn
  refine wpAny_holding (wpAny_bind (wpAny_setState_of ho hd hf ?_))
  dsimp only
  rw [byScan_of hsc hb hel]
  simp only [↓reduceIte]
  unfold setAddByScan
  refine wpAny_bind ?_
  refine wpAny_bind (wpAny_rule ?_)
  refine wpAny_bind (wpAny_setScan_of hkey ho hd hf hel ?_)
  cases hfi : List.findIdx? (fun e => (PySem.strKind P w).is k e.2) es.toList with
  | some j =>
    dsimp only
    obtain ⟨hj, pj, _⟩ := List.findIdx?_eq_some_iff_getElem.mp hfi
    have hk : k ∈ ks := (hm k).1 (hkm.2 ⟨es.toList[j], List.getElem_mem hj, pj⟩)
    refine wpAny_pure (wpAny_pure ?_)
    exact hQ s.heap _ (Heap.SameBut.refl a s.heap) ⟨o, es, ep, t, ho, hex, hd, g, nd, fun i => by
      rw [hm i, List.mem_append, List.mem_singleton]
      exact ⟨.inl, fun z => z.elim id fun e => e ▸ hk⟩, hb, hf, hr, hl⟩
  | none =>
    dsimp only
    have hnk : k ∉ es.toList.map keyS := fun z => by
      obtain ⟨e, he, q⟩ := hkm.1 z
      have c := List.findIdx?_eq_none_iff.mp hfi e he
      rw [q] at c
      cases c
    have hgw : ∀ (b : Bool) {s₁ : Shared} {Q' : Unit → Shared → Prop}, Q' () s₁ → wpAny (model P w) A (match b with | true => rule "set.scan.the-table-gave-way" | false => pure ()) Q' E s₁ :=
      fun b s₁ Q' q => by cases b <;> first | exact wpAny_pure q | exact wpAny_rule q
    have pm := layNew_perm t es ((PySem.strKind P w).hash k) (.str k tk)
    have hf1 := layNew_fits t es ((PySem.strKind P w).hash k) (.str k tk)
    have hr1 := layNew_ris t es ((PySem.strKind P w).hash k) (.str k tk) hr
    have hl1 := layNew_led t es ((PySem.strKind P w).hash k) (.str k tk)
    generalize layNew t es ((PySem.strKind P w).hash k) (.str k tk) = Z at pm hf1 hr1 hl1 ⊢
    obtain ⟨es1, t1, wasDummy, gave⟩ := Z
    dsimp only at pm hf1 hr1 hl1 ⊢
    rw [Array.toList_push] at pm
    have pc : es1.toList.Perm (((PySem.strKind P w).hash k, Value.str k tk) :: es.toList) := pm.trans (List.perm_append_singleton _ _)
    have hlen : (es.toList.map keyS).length ≤ ks.length := nodup_len _ _ nd fun x hx => (hm x).1 hx
    have hes : es1.size = es.size + 1 := by rw [← Array.length_toList, pc.length_eq, List.length_cons, Array.length_toList]
    have hle : es.size ≤ ks.length := by rw [List.length_map, Array.length_toList] at hlen; exact hlen
    have hb1 : es1.size < scanBound := by rw [hes]; omega
    have hled : w.params.followText "set-order" = true ∨ t1.led = true := hl.imp id fun z => by rw [hl1]; exact z
    have new : ∀ h' o' es2 ep2 t3, h'.get? a = some o' → o'.ExactSet → o'.data = .set es2 ep2 t3 → es2.toList.Perm es1.toList → t3.fits es2.size = true → L2.Ris t3.place.toList → (w.params.followText "set-order" = true ∨ t3.led = true) → SetG P w h' a (ks ++ [k]) := by
      intro h' o' es2 ep2 t3 e1 e2 e3 p f r l
      have pa := p.trans pc
      have pk : (es2.toList.map keyS).Perm (k :: es.toList.map keyS) := pa.map keyS
      refine ⟨o', es2, ep2, t3, e1, e2, e3, fun e he => ?_, pk.nodup_iff.mpr (List.nodup_cons.mpr ⟨hnk, nd⟩), fun i => ?_, ?_, f, r, l⟩
      · rcases List.mem_cons.mp (pa.mem_iff.mp he) with z | z
        · rw [z]; exact ⟨k, tk, rfl, rfl⟩
        · exact g e z
      · rw [pk.mem_iff, List.mem_cons, hm i, List.mem_append, List.mem_singleton]
        exact Or.comm
      · have : es2.size = es1.size := by rw [← Array.length_toList, p.length_eq, Array.length_toList]
        rw [this]
        exact hb1
    refine wpAny_bind (hgw _ ?_)
    split
    · refine wpAny_bind ?_
      rw [hashByValue_scannable 8 hsc]
      refine wpAny_pure ?_
      refine setG_tail (ks' := ks ++ [k]) ?_ ho hex hd new hb1 ?_ ?_ ?_ ?_
      · intro b s₁ Q' q; cases b <;> first | exact wpAny_pure q | exact wpAny_rule q
      · first | (split <;> first | exact hf1 | exact SetTable.fits_plain_off hf1) | exact hf1
      · first | (split <;> exact hr1) | exact hr1
      · first | (split <;> exact hled) | exact hled
      · intro h' sb r; dsimp only; exact wpAny_pure (hQ h' _ sb r)
    · refine wpAny_bind (wpAny_pure ?_)
      simp only [↓reduceIte]
      refine setG_tail (ks' := ks ++ [k]) ?_ ho hex hd new hb1 hf1 hr1 hled ?_
      · intro b s₁ Q' q; cases b <;> first | exact wpAny_pure q | exact wpAny_rule q
      · intro h' sb r; dsimp only; exact wpAny_pure (hQ h' _ sb r)
theorem setG_fresh {h : Heap} (ho : h.get? a = some { cls := .type "set", dict := none, data := .set #[] 0 (.fresh 0 0 (!w.params.followText "set-order")) }) : SetG P w h a [] :=
  ⟨_, #[], 0, _, ho, ⟨rfl, rfl, rfl⟩, rfl, (fun e he => by simp at he), (by simp), (fun k => by simp), (by decide), (by rfl), List.Pairwise.nil, by
    show _ ∨ (!w.params.followText "set-order") = true
    cases w.params.followText "set-order"
    · exact .inr rfl
    · exact .inl rfl⟩
/-- the loop that puts the texts in -/
theorem set_update_strs {I : Addr} {fp wr : List Addr} {G : Array GenState → Array GenState → Prop} {n : Nat} {Pv : Nat → Value → Prop} {St : Nat → Shared → Prop} {R : Result → Shared → Prop}
    (W : WalksS P w A.in1 I fp wr G n Pv St) (S : Addr) (hSf : S ∉ fp) (xs : List Str) (hn : n = xs.length) (hfew : xs.length + 2 < scanBound) (hval : ∀ i v, Pv i v → ∃ t, v = .str (xs.getD i Str.empty) t) :
    ∀ (k i : Nat) (s : Shared), n - i = k → i ≤ n → St i s → SetG P w s.heap S (xs.take i) →
      (∀ s', Moved (S :: wr) G s s' → SetG P w s'.heap S xs → R (.ok (.ret .none)) s') →
      codeAny (model P w) A (.builtin "set.update.loop" ⟨[.ref S, .ref I], []⟩) R s := by
  have hSw : S ∉ wr := fun h => hSf (W.sub _ h)
  have hsub : ∀ b ∈ wr, b ∈ S :: wr := fun b hb => List.mem_cons_of_mem _ hb
  intro k
  induction k with
  | zero =>
    intro i s hk hi hst hS hR
    have hin : i = n := by omega
    subst hin
    refine codeAny_builtin PyProof.Rows.F.entry_set_update_loop ?_
    rw [Around.under_plainId PyProof.Rows.F.plain_set_update_loop _]
    show wpAny _ A.in1 (pyNext (.ref I) >>= _) _ _ s
    refine wpAny_bind (W.done s _ _ hst fun s' hm => ?_)
    show wpAny _ A.in1 (ret Value.none) _ _ s'
    rw [hn, List.take_length] at hS
    exact wpAny_pure (hR s' (hm.mono hsub) (hS.at_ fun o e => hm.heap S o hSw e))
  | succ k ih =>
    intro i s hk hi hst hS hR
    have hlt : i < n := by omega
    refine codeAny_builtin PyProof.Rows.F.entry_set_update_loop ?_
    rw [Around.under_plainId PyProof.Rows.F.plain_set_update_loop _]
    show wpAny _ A.in1 (pyNext (.ref I) >>= _) _ _ s
    refine wpAny_bind (W.item i s _ _ hlt hst fun v s' hP hst' hm => ?_)
    obtain ⟨t, rfl⟩ := hval i v hP
    have hS' : SetG P w s'.heap S (xs.take i) := hS.at_ fun o e => hm.heap S o hSw e
    show wpAny _ A.in1 (holding [Value.str (xs.getD i Str.empty) t] (setAdd S (.str (xs.getD i Str.empty) t)) >>= _) _ _ s'
    refine wpAny_bind (wpAny_holding ?_)
    unfold setAdd
    refine wpAny_holding ?_
    refine wpAny_bind ((PySem.strKind P w).pyHash (k := xs.getD i Str.empty) (strKind_is _ _ _ _) ?_)
    refine setG_add (s := { s' with toks := s'.toks + 1 }) hS' (by rw [List.length_take]; omega) fun h' b hsb hS2 => ?_
    have et : xs.take i ++ [xs.getD i Str.empty] = xs.take (i + 1) := by
      rw [List.take_add_one]
      have q : xs[i]? = some (xs.getD i Str.empty) := by
        have l : i < xs.length := by omega
        simp [List.getD, l]
      rw [q]
      rfl
    rw [et] at hS2
    refine wpAny_pure ⟨plainId_quiet PyProof.Rows.F.plain_set_update_loop _, ih (i + 1) _ (by omega) hlt (W.frame _ s' _ _ hst' (Nat.le_succ _) fun b hb o e => ?_) hS2 fun s'' hm'' hS'' => ?_⟩
    · rw [hsb.2 b (fun h : b = S => hSf (by rw [← h]; exact hb))]; exact e
    · refine hR s'' (Moved.trans W.gtrans ((hm.mono hsub).then_heap (Nat.le_succ _) fun b o hb e => ?_) hm'') hS''
      rw [hsb.2 b (fun h : b = S => hb (by rw [h]; exact List.mem_cons_self))]; exact e
set_option maxHeartbeats 3200000 in
/-- set(a list of texts) -/
theorem call_set_strs {l : Addr} {items : Array Value} {xs : List Str} {Q : Value → Shared → Prop} (hh : A.handled = none) (hl : s.heap.IsList l items) (hi : PyProof.Rows.StrsAre items.toList xs) (hfew : xs.length + 2 < scanBound)
    (h : ∀ (h' : Heap) (tk : Nat), SetG P w h' s.heap.objs.size xs → (∀ b o, s.heap.get? b = some o → h'.get? b = some o) → Q (.ref s.heap.objs.size) { s with heap := h', toks := tk }) :
    wpAny (model P w) A (call (.type "set") [.ref l]) Q E s := by
  obtain ⟨c, tl, hmro⟩ := PySem.F.called_set.mro
  have hmade := PySem.F.called_set.made
  have hsub := PySem.F.called_set.sub
  refine wpAny_call (codeAny_of_tree ?_)
  show wpAny _ _ (callAny (.type "set") _) _ _ _
  refine wpAny_pure ⟨Code.quiet_builtin _ (by decide +kernel), codeAny_builtin PySem.F.entry_type_call ?_⟩
  rw [Around.under_plain (weight_type_call_type "set" [.ref l] []) rfl]
  have h1 := PySem.F.called_set.notType
  have h2 := PySem.F.called_set.canCreate
  have hct := PySem.F.typeCall_set_1 (.ref l)
  repeat (any_goals (first | assumption | wp_step))

  refine codeAny_mono (L2.code_set_led1 (.ref l) (E := E) (Q₁ := fun obj s₁ => obj = .ref s.heap.objs.size ∧ s₁ = { s with heap := s.heap.push { cls := .type "set", dict := none, data := .set #[] 0 (.fresh 0 0 (!w.params.followText "set-order")) } }) ⟨rfl, rfl⟩) fun r s₁ hr => ?_
  match r, hr with
  | .error e, hr => exact hr
  | .ok .next, hr => exact hr.elim
  | .ok .brk, hr => exact hr.elim
  | .ok .cont, hr => exact hr.elim
  | .ok (.ret obj), hr =>
      obtain ⟨rfl, rfl⟩ := hr
      have hS : (s.heap.push { cls := .type "set", dict := none, data := .set #[] 0 (.fresh 0 0 (!w.params.followText "set-order")) }).get? s.heap.objs.size = some { cls := .type "set", dict := none, data := .set #[] 0 (.fresh 0 0 (!w.params.followText "set-order")) } := Heap.get?_push_size _ rfl
      have hT : Shared.TypeIs { s with heap := s.heap.push { cls := .type "set", dict := none, data := .set #[] 0 (.fresh 0 0 (!w.params.followText "set-order")) } } (.ref s.heap.objs.size) "set" := ⟨_, hS, rfl⟩
      have hli := PySem.F.called_set.init.lookup
      have hbi := PySem.F.called_set.init.bind (.ref s.heap.objs.size)
      repeat (any_goals (first | assumption | wp_step))

      refine codeAny_mono (codeAny_call_builtin (R := wants (fun r s₂ => r = .none ∧ ∃ h' tk, s₂ = { s with heap := h', toks := tk } ∧ SetG P w h' s.heap.objs.size xs ∧ (∀ b o, s.heap.get? b = some o → h'.get? b = some o)) E)
        PySem.F.called_set.init.plain PySem.F.entry_set_init (check_set_init_1 hT ?_)) fun r₂ s₂ hr₂ => ?_
      · obtain ⟨ol, hol, hcl, nl, hdl⟩ := hl
        obtain ⟨ocls, odict, odata, oslots⟩ := ol
        simp only at hcl hdl
        subst hcl; subst hdl
        have hol' : (s.heap.push { cls := .type "set", dict := none, data := .set #[] 0 (.fresh 0 0 (!w.params.followText "set-order")) }).get? l = some { cls := .type "list", dict := odict, data := .seq items nl, slots := oslots } := Heap.get?_push_of_some _ hol
        have hsls := PySem.F.sub_list_set
        have hslf := PySem.F.sub_list_frozenset
        have hne : (Value.type "list" == Value.type "dict") = false := by decide
        have hl1 : (s.heap.push { cls := .type "set", dict := none, data := .set #[] 0 (.fresh 0 0 (!w.params.followText "set-order")) }).IsList l items := ⟨_, hol', rfl, nl, rfl⟩
        unfold Builtin.«set.__init__» noKeywords Builtin.Frozenset.updateFrom
        generalize hPI : pyIter = PI
        wp_walk
        subst hPI

        refine wpAny_pyIter_list hl1 ?_
        refine wpAny_bind (wpAny_runValue ?_)
        have hlS : l < s.heap.objs.size := Heap.lt_size hol
        have hh3 : A.in1.in1.in1.handled = none := by simp [hh]
        have hneI : l ≠ (s.heap.push { cls := .type "set", dict := none, data := .set #[] 0 (.fresh 0 0 (!w.params.followText "set-order")) }).objs.size := by
          rw [Heap.size_push]; exact Nat.ne_of_lt (Nat.lt_succ_of_lt hlS)
        have hSf : s.heap.objs.size ∉ [(s.heap.push { cls := .type "set", dict := none, data := .set #[] 0 (.fresh 0 0 (!w.params.followText "set-order")) }).objs.size, l] := by
          rw [Heap.size_push]; simp only [List.mem_cons, List.mem_singleton, List.not_mem_nil, or_false, not_or]
          exact ⟨Nat.ne_of_lt (Nat.lt_succ_self _), Nat.ne_of_gt hlS⟩
        have hsz : xs.length = items.size := by rw [← StrsAre.len_eq hi, Array.length_toList]
        have hval : ∀ (i : Nat) (v : Value), items[i]? = some v → ∃ t, v = .str (xs.getD i Str.empty) t := fun i v hv => SS.strs_at hi i v (by rw [Array.getElem?_toList]; exact hv)
        refine set_update_strs ((Walks.list hh3 _ l hneI items).toS) s.heap.objs.size
          hSf xs hsz.symm hfew hval (items.size - 0) 0 _ (by omega) (Nat.zero_le _)
          ⟨⟨_, Heap.get?_push_size _ rfl, rfl, rfl⟩, (hl1.push _)⟩ ?hS0 ?hR
        case hS0 =>
          exact setG_fresh (Heap.get?_push_of_some _ hS)
        case hR =>
          intro s' hm hS'
          obtain ⟨h', g', d', tk', os'⟩ := s'
          have eg : g' = s.gens := hm.gens
          have ed : d' = s.drawn := hm.drawn
          have eo : os' = s.os := hm.os
          subst eg; subst ed; subst eo
          show wpAny _ _ _ _ _ _
          refine wpAny_pure ?_
          show wpAny _ _ (ret Value.none) _ _ _
          refine wpAny_pure ⟨rfl, h', tk', rfl, hS', fun b o e => ?_⟩
          have hb := Heap.lt_size e
          have hb1 : b ≠ s.heap.objs.size := Nat.ne_of_lt hb
          have hb2 : b ≠ (s.heap.push { cls := .type "set", dict := none, data := .set #[] 0 (.fresh 0 0 (!w.params.followText "set-order")) }).objs.size := by
            rw [Heap.size_push]; exact Nat.ne_of_lt (Nat.lt_succ_of_lt hb)
          exact hm.heap b o (by simp only [List.mem_cons, List.mem_singleton, List.not_mem_nil, or_false, not_or]; exact ⟨hb1, hb2⟩) (Heap.get?_push_of_some _ (Heap.get?_push_of_some _ e))
      · match r₂, hr₂ with
        | .error e, hr₂ => exact hr₂
        | .ok .next, hr₂ => exact hr₂.elim
        | .ok .brk, hr₂ => exact hr₂.elim
        | .ok .cont, hr₂ => exact hr₂.elim
        | .ok (.ret r), hr₂ =>
          obtain ⟨rfl, h', tk, rfl, hS', hk'⟩ := hr₂
          repeat (any_goals (first | assumption | wp_step))
          exact h _ _ hS' hk'
end
end KT

namespace KT
open PySem PySem.Spec PyProof.Rows L2
section
variable {P : Program} {w : World} {A : Around} {E : Value → Shared → Prop} {s : Shared} {a : Addr} {ks : List Str}
theorem strs_of : ∀ (l : List Value), (∀ v ∈ l, ∃ k tk, v = Value.str k tk) → StrsAre l (l.map fun v => keyS (0, v))
  | [], _ => .nil
  | v :: l, h => by
    obtain ⟨k, tk, rfl⟩ := h v List.mem_cons_self
    exact .cons k tk (strs_of l fun u hu => h u (List.mem_cons_of_mem _ hu))
/-- sorted(a set of texts) -/
theorem sorted_setG {Q : Value → Shared → Prop} (R : SetG P w s.heap a ks) (hh : A.handled = none)
    (hQ : ∀ s' p (out : Array Value) (c : Nat) (ys : List Str), (∀ b o, s.heap.get? b = some o → s'.heap.get? b = some o) → s'.gens = s.gens → s'.os = s.os → s.heap.objs.size ≤ p →
      s'.heap.get? p = some (seqObj "list" out c) → StrsAre out.toList ys → sortedS ys = true → ys.Nodup → (∀ k, k ∈ ys ↔ k ∈ ks) → ys.length ≤ 4096 → Q (.ref p) s') :
    wpAny (model P w) A (call (.builtin "sorted") [.ref a]) Q E s := by
  obtain ⟨o, es, ep, t, ho, hex, hd, g, nd, hm, hb, hf, hr, hl⟩ := R
  refine Calls.call_function_entry kind_sorted plain_sorted entry_sorted (args_sorted1 _) ?_
  unfold Builtin.«sorted»
  refine wpAny_bind (m := checkCount "sorted" 1 1 _) (wpAny_pure ?_)
  refine wpAny_bind (collect_set (A := A.in1) hh ⟨o, ho, hex.1, hd⟩ hf hb hr hl fun s1 vs k1 hz g1 o1 pm => ?_)
  have hvl : vs.length = es.size := by rw [pm.length_eq, List.length_map, Array.length_toList]
  have hb' : es.size < 4096 := hb
  have hS : StrsAre vs (vs.map fun v => keyS (0, v)) := strs_of vs fun v hv => by
    obtain ⟨e, he, q⟩ := List.mem_map.mp (pm.mem_iff.mp hv)
    obtain ⟨k, tk, h1, _⟩ := g e he
    exact ⟨k, tk, by rw [← q]; exact h1⟩
  have pk : (vs.map fun v => keyS (0, v)).Perm (es.toList.map keyS) := by
    have q := pm.map fun v => keyS (0, v)
    rw [List.map_map] at q
    exact q
  refine wpAny_bind (wpAny_newList ?_ (by rw [hvl, sizeLine_eq]; omega))
  have hoL : (s1.heap.push (seqObj "list" vs.toArray 0)).get? s1.heap.objs.size = some (seqObj "list" vs.toArray 0) := Heap.get?_push_size _ rfl
  refine wpAny_bind (wpAny_holding (wpAny_call_entry slot_list_sort ⟨_, hoL, rfl⟩ entry_list_sort (list_sort_treeKAny strKind_oneLt hoL hS.keysOf (fun v₁ v₂ rest e => keyKind_strs (by rw [← e]; exact hS)) (by rw [hvl, sizeLine_eq]; omega) fun st' hp hs => ⟨_, rfl, ?_⟩) (args_list_sort _)))
  obtain ⟨ys, a1, a2, a3⟩ := sorted_out_str hS hp hs
  obtain ⟨c, hc⟩ := sortedHeap_at (vs := vs) (out := (arrOf st').map (·.2)) hoL
  have pn : ys.Perm (es.toList.map keyS) := a2.trans pk
  refine wpAny_pure ⟨_, rfl, hQ _ s1.heap.objs.size _ c ys (fun b u e => ?_) g1 o1 hz hc a1 a3 (pn.nodup_iff.mpr nd) (fun k => by rw [pn.mem_iff, hm k]) ?_⟩
  · have q := k1 b u e
    have hlt := Heap.lt_size q
    show (sortedHeap (s1.heap.push (seqObj "list" vs.toArray 0)) s1.heap.objs.size vs _).get? b = some u
    rw [sortedHeap_old (Nat.ne_of_lt hlt) (by rw [size_push']; exact Nat.lt_succ_of_lt hlt)]
    exact Heap.get?_push_of_some _ q
  · rw [pn.length_eq, List.length_map, Array.length_toList]
    omega
end
/-- the set of texts at a -/
def SetGO (P : Program) (w : World) (a : Addr) (ks : List Str) : HO := .ext fun h => SetG P w h a ks
section
variable {X : Cx}
theorem setGO_new {w : World} {P : Program} {H : Hp} {h : Heap} {a : Addr} {ks : List Str} (R : SetG P w h a ks) : ObjOk P w H h a (SetGO P w a ks) := by
  have ⟨o, _, _, _, ho, _⟩ := R
  exact ⟨R, ⟨o, ho⟩, fun h1 h2 p k => SetG.at_ p k⟩
/-- set(xs), texts -/
theorem cr_setG (hc : X.calm = true) : CallR X (.type "set") (fun vs H Q => ∃ (l : Addr) (xs : List Str), vs = [.ref l] ∧ SqL X.K H l (xs.map V.str) ∧ xs.length ≤ 4000 ∧ ∀ p, H p = none → Q (.ref p) (upd H p (SetGO X.prog X.w p xs))) := by
  intro pins s σ H vs us Q I r h
  obtain ⟨l, xs, rfl, hs, hz, q⟩ := h
  obtain ⟨its, rv, hl, _⟩ := I.list hs
  rw [Vals.ref1 r]
  refine call_set_strs (I.ok.hd hc) hl.isList rv.strs (by show xs.length + 2 < 4096; omega) fun h' tk R hk => ?_
  exact ⟨.ref s.heap.objs.size, upd H s.heap.objs.size (SetGO X.prog X.w s.heap.objs.size xs), I.laid (t' := tk) hk (Nat.le_refl _) (setGO_new R), rfl, q _ (I.hok.fresh (Nat.le_refl _))⟩
/-- sorted(a set of texts) -/
theorem cr_sortedG (hc : X.calm = true) : CallR X (.builtin "sorted") (fun vs H Q => ∃ (a : Addr) (ks : List Str), vs = [.ref a] ∧ H a = some (SetGO X.prog X.w a ks) ∧
    ∀ (ys : List Str) (p : Addr), sortedS ys = true → ys.Nodup → (∀ k, k ∈ ys ↔ k ∈ ks) → H p = none → Q (.ref p) (upd H p (.lst (ys.map V.str)))) := by
  intro pins s σ H vs us Q I r h
  obtain ⟨a, ks, rfl, ha, q⟩ := h
  have R : SetG X.prog X.w s.heap a ks := (I.hok a _ ha).1
  rw [Vals.ref1 r]
  refine sorted_setG R (I.ok.hd hc) fun s' p out c ys k g o hp hg hi hs hn hm hl => ?_
  have hlen : (ys.map V.str).length ≤ sizeLine := by rw [List.length_map, sizeLine_eq]; omega
  have hn' : H p = none := I.hok.fresh hp
  have J : Inv X pins σ (upd H p (.lst (ys.map V.str))) { s with heap := s'.heap, gens := s'.gens, drawn := s'.drawn, toks := s'.toks } :=
    I.call (ch := []) (Un.laid k hp hn') (I.hok.laid k hp ⟨hlen, out.toList, c, vals_of_strs hi, hg⟩) (by rw [g]; exact I.bare) (fun _ z => nomatch z)
  have e : s' = { s with heap := s'.heap, gens := s'.gens, drawn := s'.drawn, toks := s'.toks } := by
    cases s'
    cases s
    cases o
    rfl
  rw [e]
  exact ⟨.ref p, _, J, rfl, q ys p hs hn hm hn'⟩
end
end KT

/-! sum(a list of lists, []) -/
namespace KT
open PySem PySem.Spec PyProof.Rows L2
theorem sub_lst_str : isSubtype (.type "list") (.type "str") = pure false := by rw [isSubtype_type]; kernel_rfl
theorem sub_lst_bytes : isSubtype (.type "list") (.type "bytes") = pure false := by rw [isSubtype_type]; kernel_rfl
theorem sub_lst_bytearray : isSubtype (.type "list") (.type "bytearray") = pure false := by rw [isSubtype_type]; kernel_rfl
theorem args_sum2 (a b : Value) : argsOk "sum" ⟨[a, b], []⟩ := by unfold argsOk; kernel_rfl
def Inner (h : Heap) (its : Array Value) (xss : List (List Value)) : Prop := ∀ (i : Nat) (v : Value), its[i]? = some v → ∃ (a : Addr) (n : Nat) (xs : List Value), v = .ref a ∧ xss[i]? = some xs ∧ IsL h a xs.toArray n
section
variable {prog : Program} {w : World} {A : Around} {R : Result → Shared → Prop} {I l : Addr} {its : Array Value} {xss : List (List Value)}
theorem loop_sumL (hh : A.handled = none) (hne : l ≠ I) (hl : xss.length = its.size) (hz : xss.flatten.length ≤ sizeLine) (S T0 b0 : Addr) (hSI : S ≠ I) (hSl : S ≠ l) (hb : b0 ≤ S) (hI : b0 ≤ I) :
    ∀ (k i : Nat) (s : Shared) (T : Addr) (c cT : Nat), its.size - i = k → i ≤ its.size → (s.heap.IsListIter I l i ∧ s.heap.IsList l its) → s.heap.get? S = some { cls := .type "list", dict := none, data := .seq #[.ref T] c, slots := #[] } →
    IsL s.heap T (xss.take i).flatten.toArray cT → T ≠ S → T ≠ I → (i = 0 ∧ T = T0 ∨ b0 ≤ T) →
    (∀ (j : Nat) (v : Value), its[j]? = some v → ∃ (a : Addr) (n : Nat) (xs : List Value), v = .ref a ∧ a ≠ S ∧ a ≠ I ∧ xss[j]? = some xs ∧ IsL s.heap a xs.toArray n) →
    (∀ h' tk T' c', (∀ b o, b ≠ I → b ≠ S → s.heap.get? b = some o → h'.get? b = some o) → (its.size = 0 ∧ T' = T0 ∨ b0 ≤ T') → IsL h' T' xss.flatten.toArray c' → R (.ok (.ret (.ref T'))) { s with heap := h', toks := tk }) →
    codeAny (model prog w) A (.builtin "sum.loop" ⟨[.ref I, .ref S, rawInt 2, rawInt 0], []⟩) R s := by
  have W := Walks.list (prog := prog) (w := w) (A := A.in1) hh I l hne its
  intro k
  induction k with
  | zero =>
    intro i s T c cT hk hi hst hS hT hTS hTI hT0 hin hR
    have hin : i = its.size := by omega
    subst hin
    refine codeAny_builtin F.entry_sum_loop ?_
    rw [Around.under_plainId F.plain_sum_loop _]
    show wpAny _ A.in1 (seqItems? (.ref S) >>= _) _ _ s
    refine wpAny_bind (wpAny_seqItems hS rfl ?_)
    show wpAny _ A.in1 (tryCatch (pyNext (.ref I)) _ >>= _) _ _ s
    refine wpAny_bind (wpAny_tryCatch (W.done s _ _ hst fun h' tk hk' => ?_))
    have hk2 : ∀ b o, b ≠ I → s.heap.get? b = some o → h'.get? b = some o := fun b o hb e => hk' b o (by simpa using hb) e
    refine wpAny_pure (hR h' tk T cT (fun b o hbI _ e => hk2 b o hbI e) hT0 ?_)
    rw [← hl, List.take_length] at hT
    exact hk2 T _ hTI hT
  | succ k ih =>
    intro i s T c cT hk hi hst hS hT hTS hTI hT0 hin hR
    have hlt : i < its.size := by omega
    refine codeAny_builtin F.entry_sum_loop ?_
    rw [Around.under_plainId F.plain_sum_loop _]
    show wpAny _ A.in1 (seqItems? (.ref S) >>= _) _ _ s
    refine wpAny_bind (wpAny_seqItems hS rfl ?_)
    show wpAny _ A.in1 (tryCatch (pyNext (.ref I)) _ >>= _) _ _ s
    refine wpAny_bind (wpAny_tryCatch (W.item i s _ _ hlt hst fun v h' tk hP hst' hk' => ?_))
    have hk2 : ∀ b o, b ≠ I → s.heap.get? b = some o → h'.get? b = some o := fun b o hb e => hk' b o (by simpa using hb) e
    obtain ⟨a, n, xs, rfl, haS, haI, hxs, hax⟩ := hin i v hP
    have hS' := hk2 S _ hSI hS
    have hT' : IsL h' T (xss.take i).flatten.toArray cT := hk2 T _ hTI hT
    have hax' : IsL h' a xs.toArray n := hk2 a _ haI hax
    have fl : (xss.take (i + 1)).flatten = (xss.take i).flatten ++ xs := by rw [List.take_add_one, hxs, List.flatten_append]; simp
    have hsz : (xss.take i).flatten.toArray.size + xs.toArray.size ≤ sizeLine := by
      have q : (xss.take (i + 1)).flatten.length ≤ xss.flatten.length := by
        conv => rhs; rw [← List.take_append_drop (i + 1) xss, List.flatten_append, List.length_append]
        omega
      rw [fl, List.length_append] at q
      rw [List.size_toArray, List.size_toArray]
      omega
    show wpAny _ A.in1 ((holding [Value.ref a] (binaryOp .Add (.ref T) (.ref a))).attempt >>= _) _ _ _
    refine wpAny_bind (wpAny_attempt (wpAny_holding (PySem.P.add_list hT' hax' ?_ hsz)))
    generalize hp : Heap.push h' { cls := .type "list", data := .seq ((xss.take i).flatten.toArray ++ xs.toArray) } = h2
    have hpo : ∀ b o, h'.get? b = some o → h2.get? b = some o := fun b o e => by rw [← hp]; exact Heap.get?_push_of_some _ e
    have hN : IsL h2 h'.objs.size ((xss.take (i + 1)).flatten).toArray 0 := by
      rw [fl, ← hp]
      have e : ((xss.take i).flatten ++ xs).toArray = (xss.take i).flatten.toArray ++ xs.toArray := by simp
      rw [e]
      exact Heap.get?_push_size _ rfl
    have hS2 := hpo S _ hS'
    have ltS : S < h'.objs.size := Heap.lt_size hS'
    have ltI : I < h'.objs.size := by obtain ⟨o, e, _⟩ := hst'.1; exact Heap.lt_size e
    have ltl : l < h'.objs.size := by obtain ⟨o, e, _⟩ := hst'.2; exact Heap.lt_size e
    show wpAny _ A.in1 (updateSeq S (fun _ => #[.ref h'.objs.size]) >>= _) _ _ _
    refine wpAny_bind (wpAny_updateSeq (s := { s with heap := h2, toks := tk }) hS2 rfl ?_)
    have hS3 := Heap.get?_update_self (Obj.mapSeq fun _ => #[Value.ref h'.objs.size]) hS2 rfl
    refine wpAny_bind (wpAny_letGo ?_)
    refine wpAny_bind (wpAny_updateSeq (s := { s with heap := h2.update S (Obj.mapSeq fun _ => #[Value.ref h'.objs.size]), toks := tk }) hS3 rfl ?_)
    have old : ∀ b o, b ≠ S → h'.get? b = some o → ((h2.update S (Obj.mapSeq fun _ => #[Value.ref h'.objs.size])).update S (Obj.mapSeq fun _ => #[Value.ref h'.objs.size])).get? b = some o := fun b o hb e =>
      (Heap.get?_update_other _ _ (Ne.symm hb)).trans ((Heap.get?_update_other _ _ (Ne.symm hb)).trans (hpo b o e))
    refine wpAny_pure ⟨plainId_quiet F.plain_sum_loop _, ih (i + 1) _ h'.objs.size _ 0 (by omega) hlt ⟨hst'.1.at fun o e => old I o hSI.symm e, hst'.2.at fun o e => old l o hSl.symm e⟩ (Heap.get?_update_self _ hS3 rfl) ?_ (Nat.ne_of_gt ltS) (Nat.ne_of_gt ltI) (.inr (Nat.le_trans hb (Nat.le_of_lt ltS))) (fun j v hj => ?_) fun h'' tk'' T' c' hk'' hb' hT'' => ?_⟩
    · exact (Heap.get?_update_other _ _ (Nat.ne_of_lt ltS)).trans ((Heap.get?_update_other _ _ (Nat.ne_of_lt ltS)).trans hN)
    · obtain ⟨a', n', xs', e1, e2, e3, e4, e5⟩ := hin j v hj
      exact ⟨a', n', xs', e1, e2, e3, e4, old a' _ e2 (hk2 a' _ e3 e5)⟩
    · exact hR h'' tk'' T' c' (fun b o hbI hbS e => hk'' b o hbI hbS (old b o hbS (hk2 b o hbI e))) hb' hT''
end
section
variable {prog : Program} {w : World} {A : Around} {E : Value → Shared → Prop} {s : Shared} {l T0 : Addr} {its : Array Value} {xss : List (List Value)}
theorem call_sumL {Q : Value → Shared → Prop} {c0 : Nat} (hh : A.handled = none) (hl : s.heap.IsList l its) (hi : Inner s.heap its xss) (hlen : xss.length = its.size) (hz : xss.flatten.length ≤ sizeLine) (h0 : IsL s.heap T0 #[] c0)
    (h : ∀ h' tk T' c', (∀ b o, s.heap.get? b = some o → h'.get? b = some o) → (its.size = 0 ∧ T' = T0 ∨ s.heap.objs.size ≤ T') → IsL h' T' xss.flatten.toArray c' → Q (.ref T') { s with heap := h', toks := tk }) :
    wpAny (model prog w) A (call (.builtin "sum") [.ref l, .ref T0]) Q E s := by
  refine call_function_tree F.kind_sum F.plain_sum F.entry_sum (args_sum2 _ _) ?_
  unfold Builtin.«sum»
  simp only [List.length_cons, List.length_nil]
  rw [if_neg (by decide)]
  refine wpAny_bind (wpAny_of_eq (show Builtin.Builtins.bindParams "sum" ["start"] 0 ⟨[.ref T0], []⟩ = pure [some (.ref T0)] from rfl) ?_)
  have hlt : l < s.heap.objs.size := by obtain ⟨_, e, _⟩ := hl; exact Heap.lt_size e
  refine wpAny_bind (wpAny_pyIter_list hl ?_)
  refine wpAny_bind (wpAny_pure ?_)
  generalize hp : s.heap.push { cls := .type "list_iterator", data := .fields #[.ref l, .int 0 0] } = h2
  have hpo : ∀ b o, s.heap.get? b = some o → h2.get? b = some o := fun b o e => by rw [← hp]; exact Heap.get?_push_of_some _ e
  have hIt : h2.IsListIter s.heap.objs.size l 0 := by rw [← hp]; exact ⟨_, Heap.get?_push_size _ rfl, rfl, rfl⟩
  have hT : Shared.TypeIs { s with heap := h2 } (.ref T0) "list" := ⟨_, hpo _ _ h0, rfl⟩
  have s2 : h2.objs.size = s.heap.objs.size + 1 := by rw [← hp]; exact Heap.size_push ..
  simp only [List.forIn_cons, List.forIn_nil]
  refine wpAny_bind (wpAny_bind (wpAny_bind (wpAny_isInstance (T := "list") (b := false) hT sub_lst_str ?_)))
  simp only [Bool.false_eq_true, if_false]
  refine wpAny_pure (wpAny_bind (wpAny_bind (wpAny_isInstance (T := "list") (b := false) hT sub_lst_bytes ?_)))
  simp only [Bool.false_eq_true, if_false]
  refine wpAny_pure (wpAny_bind (wpAny_bind (wpAny_isInstance (T := "list") (b := false) hT sub_lst_bytearray ?_)))
  simp only [Bool.false_eq_true, if_false]
  refine wpAny_pure (wpAny_pure ?_)
  refine wpAny_bind (wpAny_newObj_type ?_)
  have lt0 : T0 < s.heap.objs.size := Heap.lt_size h0
  have n1 : s.heap.objs.size < h2.objs.size := by rw [s2]; exact Nat.lt_succ_self _
  have po : ∀ b o, s.heap.get? b = some o → (h2.push { cls := .type "list", dict := none, data := .seq #[.ref T0] 0, slots := #[] }).get? b = some o := fun b o e => Heap.get?_push_of_some _ (hpo b o e)
  refine wpAny_pure ⟨plainId_quiet F.plain_sum_loop _, loop_sumL (xss := xss) hh (Nat.ne_of_lt hlt) hlen hz h2.objs.size T0 s.heap.objs.size (Nat.ne_of_gt n1) (Nat.ne_of_gt (Nat.lt_trans hlt n1)) (Nat.le_of_lt n1) (Nat.le_refl _) its.size 0 _ T0 0 c0 (by omega) (Nat.zero_le _)
    ⟨hIt.at fun o e => Heap.get?_push_of_some _ e, hl.at fun o e => po _ _ e⟩ (Heap.get?_push_size _ rfl) (by simpa using po _ _ h0) (Nat.ne_of_lt (Nat.lt_trans lt0 n1)) (Nat.ne_of_lt lt0) (.inl ⟨rfl, rfl⟩) (fun j v hj => ?_) fun h' tk T' c' hk hb hT' => ?_⟩
  · obtain ⟨a, n, xs, e1, e2, e3⟩ := hi j v hj
    have := Heap.lt_size e3
    exact ⟨a, n, xs, e1, Nat.ne_of_lt (Nat.lt_trans this n1), Nat.ne_of_lt this, e2, po _ _ e3⟩
  · refine h h' tk T' c' (fun b o e => ?_) hb hT'
    have := Heap.lt_size e
    exact hk b o (Nat.ne_of_lt this) (Nat.ne_of_lt (Nat.lt_trans this n1)) (po b o e)
end
end KT

namespace KT
open PySem PySem.Spec PyProof.Rows L2
section
variable {X : Cx}
theorem inner_of {pins : List (Addr × Obj)} {σ : L2.St} {H : Hp} {s : Shared} (I : Inv X pins σ H s) : ∀ {as : List Addr} {yss : List (List V)}, Paired (fun (a : Addr) (ys : List V) => H a = some (.lst ys)) as yss →
    ∃ xss : List (List Value), xss.length = as.length ∧ Vals yss.flatten xss.flatten ∧ ∀ (j : Nat) (a : Addr), as[j]? = some a → ∃ (n : Nat) (xs : List Value), xss[j]? = some xs ∧ IsL s.heap a xs.toArray n
  | [], [], .nil => ⟨[], rfl, .nil, fun j a e => by simp at e⟩
  | a :: as, ys :: yss, .cons h t => by
    obtain ⟨xss, h1, h2, h3⟩ := inner_of I t
    obtain ⟨_, its, n, rv, g⟩ := I.hok a _ h
    refine ⟨its :: xss, by simp [h1], by rw [List.flatten_cons, List.flatten_cons]; exact rv.append h2, fun j b e => ?_⟩
    match j, e with
    | 0, e =>
      obtain rfl := Option.some.inj e
      exact ⟨n, its, rfl, g⟩
    | j + 1, e => exact h3 j b (by simpa using e)
/-- sum(xs, []), xs a list of lists, not empty -/
theorem cr_sumL (hc : X.calm = true) : CallR X (.builtin "sum") (fun vs H Q => ∃ (l e : Addr) (as : List Addr) (yss : List (List V)), vs = [.ref l, .ref e] ∧ H l = some (.lst (as.map V.ref)) ∧ H e = some (.lst []) ∧ as ≠ [] ∧
    Paired (fun (a : Addr) (ys : List V) => H a = some (.lst ys)) as yss ∧ yss.flatten.length ≤ sizeLine ∧ ∀ p, H p = none → Q (.ref p) (upd H p (.lst yss.flatten))) := by
  intro pins s σ H vs us Q I r h
  obtain ⟨l, e, as, yss, rfl, hl, he, hne, hp, hz, q⟩ := h
  obtain ⟨u, v, rfl, ru, rv⟩ := vals2 r
  obtain rfl : u = Value.ref l := ru
  obtain rfl : v = Value.ref e := rv
  obtain ⟨zl, its, n, vl, gl⟩ := I.hok l _ hl
  have ei := refs_at vl
  subst ei
  obtain ⟨_, its0, n0, v0, g0⟩ := I.hok e _ he
  cases v0
  obtain ⟨xss, h1, h2, h3⟩ := inner_of I hp
  have ll : (as.map Value.ref).toArray.size = as.length := by simp
  refine call_sumL (I.ok.hd hc) (xss := xss) (PySem.IsL.isList gl) (fun i v hv => ?_) (by rw [ll, h1]) (by rw [← h2.length]; exact hz) g0 fun h' tk T' c' hk hb hT => ?_
  · rw [List.getElem?_toArray, List.getElem?_map] at hv
    obtain ⟨a, ha, rfl⟩ := Option.map_eq_some_iff.mp hv
    obtain ⟨n', xs, e1, e2⟩ := h3 i a ha
    exact ⟨a, n', xs, rfl, e1, e2⟩
  · have le : s.heap.objs.size ≤ T' := by
      rcases hb with ⟨z, _⟩ | z
      · rw [ll] at z
        exact absurd (List.eq_nil_of_length_eq_zero z) hne
      · exact z
    exact ⟨.ref T', upd H T' (.lst yss.flatten), I.laid (t' := tk) hk le (show ObjOk X.prog X.w _ _ _ (.lst yss.flatten) from ⟨hz, xss.flatten, c', h2, hT⟩), rfl, q T' (I.hok.fresh le)⟩
end
/-! ### calls by keyword alone -/
def tCallK0 (sp : Sp) (gV : List V → List V → List V) (E : XK) (tk : TA) : TE := fun σ H Q => tk σ H fun zs H2 => sp (gV [] zs) H2 Q E
section
variable {X : Cx} {CX : CXT} {k : Nat} {f : Addr} {fd : FuncData} {ps ks : List Str} {sp : Sp} {E : XK} {x : Str} {p pos : Pos} {kws : List Keyword} {tk : TA} {g : List Value → List Value → List Value} {gV : List V → List V → List V}
theorem pe_callK0 (F : FnOk X.prog X.w X.K X.mg X.base CX k f fd ps sp) (hr : Room k X.A) (hg : Gl X x) (hm : X.mg x = some (.ref f)) (hk : PySem.W.keepIn X.K (.ref f) = true) (hb : KBinds X.K fd ps ks g gV) (hx : Passes CX X E)
    (hkw : PK X kws tk) (hall : (backToKw pos (keywordEach kws X.env)).all (·.1.isSome) = true := by rfl) (hks : (backToKw pos (keywordEach kws X.env)).filterMap (·.1) = ks := by rfl)
    (hdb : (x == ("__debug__" : Str)) = false := by decide) (hpl : ((backTo pos (starEach [] X.env)).any (·.1) || (backToKw pos (keywordEach kws X.env)).any (·.1.isNone)) = false := by rfl) :
    PE X (.Call (.Name x p) [] kws pos) (tCallK0 sp gV E tk) := by
  refine ⟨fun pins s σ H Q I h => ?_⟩
  refine wpAny_Call_Name_kw (ld_glob I hg hm ?_ hdb)
  refine PySem.W.callWith_KW0 (h₀ := X.base) I.ok.mod.kin hk hall (thn (hkw.run pos pins s σ H _ I h) fun ws s2 ⟨zs, H2, I2, rz, q2⟩ => ⟨I2.kIn, ?_⟩) hpl
  rw [hks]
  exact run_fnk (us := []) F hr hb hx I2 .nil rz q2
/-- nothing by place, the keywords' values in the order of the parameters by f -/
def gK {α : Type} (f : List α → List α) (us ws : List α) : List α := match us with
  | [] => f ws
  | _ => []
theorem kbinds_mk {K : PySem.W.Frag} {q : Str} {st : Stmt} (F : Fun K x q st f fd) (h1 : ps ≠ []) (fo : ∀ {α : Type}, List α → List α)
    (h : ∀ (kV doc pm : Value) (an : Option Addr) (cdv ct : Value) (ws : List Value), (fo ws).length = ps.length → bindArgs (PySem.W.fnOf x q (defArgs st) (defBody st) (defScope st) .none kV doc pm an cdv ct) ⟨[], ks.zip ws⟩ = pure (ps.zip (fo ws)))
    (hr : ∀ {zs : List V} {ws : List Value}, Vals zs ws → Vals (fo zs) (fo ws)) : KBinds K fd ps ks (gK fo) (gK fo) := by
  obtain ⟨oc, od, kV, doc, pm, an, cdv, ct, osl, rfl, lk, hcd⟩ := F.ex
  refine ⟨fun s us ws _ hl => ?_, fun {vs us zs ws} r rz => ?_⟩
  · cases us with
    | nil => exact .of_eq (h kV doc pm an cdv ct ws hl)
    | cons u us =>
      exact absurd (List.eq_nil_of_length_eq_zero (by rw [← hl]; rfl)) h1
  · cases r with
    | nil => exact hr rz
    | cons _ _ => exact .nil
end
end KT

namespace KT
open PySem PySem.Spec PyProof.Rows L2
section
variable {X : Cx}
/-- x in a tuple, data at any depth -/
def rInDT (K : PySem.W.Frag) (neg : Bool) : R2 := fun x y H Q => ∃ d ds, Dp K H x d ∧ Dp K H y (.tuple ds) ∧ SeqAt.shaped d = true ∧ SeqAt.shaped (.tuple ds) = true ∧ Q (.bl (if neg = true then !ds.any fun z => PyData.eqv z d else ds.any fun z => PyData.eqv z d)) H
theorem op_inDT (hu : X.A.units + 65 < cLine) : OpR X (compareOp .In) (rInDT X.K false) := by
  intro pins s σ H x y v u Q I rx ry h
  obtain ⟨d, ds, hd, he, sd, se, q⟩ := h
  obtain ⟨as, r1⟩ := Dp.reads I d x v hd rx
  obtain ⟨bs, r2⟩ := Dp.reads I (.tuple ds) y u he ry
  exact SeqAt.in_tuple_reads r2 r1 (SeqAt.canLay_of_shaped se) (SeqAt.canLay_of_shaped sd) (room_in_shaped sd hu) ⟨.bl _, H, I, rfl, q⟩
end
end KT

namespace Q4
open PySem PySem.Spec PyProof.Rows L2 KT
open PySem.W (Frag)
def D.cls : D → String
  | .s _ => "str"
  | .i _ => "int"
  | .o => "NoneType"
  | .t _ => "tuple"
def D.isStr : D → Bool
  | .s _ => true
  | _ => false
def D.isTup : D → Bool
  | .t _ => true
  | _ => false
def D.isInt : D → Bool
  | .i _ => true
  | _ => false
section
variable {K : Frag} {H : Hp} {v : V} {d : D}
theorem DAt.tyx (h : DAt H v d) : TyX K H v (.type d.cls) := by
  cases h with
  | s h => exact .base (.str _)
  | i n => exact .base (.int n)
  | o => exact .base .non
  | t e _ => exact .base (.tup e)
theorem D.kstr (d : D) : PySem.W.kitOne K (.type d.cls) (.type "str") = some d.isStr := by cases d <;> exact kit_ty (by dsimp only [D.cls, D.isStr]; decide +kernel)
theorem D.ktup (d : D) : PySem.W.kitOne K (.type d.cls) (.type "tuple") = some d.isTup := by cases d <;> exact kit_ty (by dsimp only [D.cls, D.isTup]; decide +kernel)
theorem D.kint (d : D) : PySem.W.kitOne K (.type d.cls) (.type "int") = some d.isInt := by cases d <;> exact kit_ty (by dsimp only [D.cls, D.isInt]; decide +kernel)
theorem D.kbool (d : D) : PySem.W.kitOne K (.type d.cls) (.type "bool") = some false := by cases d <;> exact kit_ty (by dsimp only [D.cls]; decide +kernel)
end
section
variable {P : Program} {w : World} {K : Frag} {mg : Str → Option Value} {base : Heap}
def D.isWord : D → Bool
  | .s z => isWB z
  | _ => false
def spIsWordD : Sp := fun vs H Q _ => ∃ v d, vs = [v] ∧ DAt H v d ∧ ∀ H', Same H H' → Q (.bl d.isWord) H'
theorem abc_iff (c : Nat) : decide (c ∈ abc.cps.toList) = (decide (97 ≤ c) && decide (c ≤ 122)) := by
  rw [Bool.eq_iff_iff, decide_eq_true_eq, Bool.and_eq_true, decide_eq_true_eq, decide_eq_true_eq]
  constructor
  · intro h
    have q : ∀ d ∈ abc.cps.toList, 97 ≤ d ∧ d ≤ 122 := by decide +kernel
    exact q c h
  · intro h
    exact abc_mem h.1 h.2
theorem ok_isWordD {f : Addr} {fd : FuncData} (T : Top K mg "is_word" sIsWord pIsWord f fd) (B : Blt mg) (G : Gbl K mg) : FnOk P w K mg base CX0 1 f fd pIsWord spIsWordD := by
  obtain ⟨tl, gl⟩ := G.letters
  refine T.F.ok scIsWord (fun vs H Q E h => ?_) (fun cdv A outer s H vs Q E hr h => ?_)
  · obtain ⟨_, _, rfl, _⟩ := h
    rfl
  · obtain ⟨v, d, rfl, hd, k⟩ := h
    refine ⟨_, (pss_cons (ps_if (PW.pt (pw_or (pt_not (pt_val (pe_callB call_isi (by rfl) B.isi (by decide +kernel) (pa_cons (pv 0) (pa_cons (pe_bltn (v := .ty "str") (by rfl) B.str_ (by decide +kernel) rfl) pa_nil))))) (pw_or1 (pt_not (pt_chain op_le op_le pe_int (pe_callB call_len_str (by rfl) B.len PySem.boot_len (pa_cons (pv 0) pa_nil)) pe_int))))) (pss_one (ps_ret pe_bl)) pss_nil)
      (pss_one (ps_ret (pe_callB (cr_all rfl) (by rfl) B.all (by decide +kernel) (pa_cons (pe_lc (own := [("letter", 1)]) (g := gName 1) (tt := tYes) rfl scIsWord.nd (pi_str (pv 0)) (blkOk_by (N := nIsWord) (sc := defScope sIsWord) (by decide +kernel)) (fun _ _ _ _ _ => pg_name (i := 1) scIsWord.nd rfl (Or.inl rfl)) (fun _ _ _ _ _ => pts_nil) (fun _ _ _ _ _ => (pe_cmpR op_in_sign (pv 1) (pe_glob (v := .str abc) rfl gl ⟨tl, rfl⟩) (by rfl)))) pa_nil))))), ?_⟩
    refine ⟨_, rfl, _, _, _, _, d.isStr, rfl, .ty "str", hd.tyx, d.kstr, _, rfl, ?_⟩
    cases hd with
    | i n => exact iteT (k _ (Same.refl _))
    | o => exact iteT (k _ (Same.refl _))
    | t e h => exact iteT (k _ (Same.refl _))
    | @s z h =>
      have hl := h.2
      refine iteF ⟨_, rfl, _, rfl, by rw [sizeLine_eq]; omega, _, _, rfl, rfl, _, rfl, ?_⟩
      have e0 : (D.s z).isWord = (decide (1 ≤ z.length) && decide (z.length ≤ 8) && z.cps.toList.all fun c => decide (97 ≤ c) && decide (c ≤ 122)) := rfl
      rw [e0] at k
      by_cases c1 : 1 ≤ z.length
      · rw [decide_eq_true (show (1 : Int) ≤ (z.length : Int) by omega)]
        refine iteT ⟨_, _, rfl, rfl, _, rfl, ?_⟩
        by_cases c2 : z.length ≤ 8
        · rw [decide_eq_true (show (z.length : Int) ≤ 8 by omega)]
          refine iteF ⟨_, rfl, _, rfl, fun D hD => ?_⟩
          rw [decide_eq_true c1, decide_eq_true c2, Bool.true_and, Bool.true_and] at k
          refine lc_it walk_str (fun i H' => H' = upd H D (.lst ((z.cps.toList.take i).map fun c => V.bl (decide (c ∈ abc.cps.toList))))) (by rw [List.take_zero]; rfl) (fun _ _ _ _ => trivial) ?_ ?_
          · rintro i x H' H2 hi rfl ⟨rfl, c, hc, rfl⟩
            have hc' : z.cps.toList[i]? = some c := by rw [Array.getElem?_toList]; exact hc
            refine ⟨rfl, _, rfl, c, abc, rfl, rfl, _, upd_same, ?_, ?_⟩
            · rw [List.length_map, List.length_take, sizeLine_eq]
              have : z.cps.size ≤ 100 := hl
              omega
            · rw [upd_upd, List.take_add_one, hc', List.map_append]
              rfl
          · rintro H' rfl
            have lz : z.cps.size = z.cps.toList.length := by simp
            refine ⟨_, z.cps.toList.map fun c => decide (c ∈ abc.cps.toList), rfl, SqL.of (by rw [upd_same, lz, List.take_length, List.map_map]; rfl), ?_⟩
            have e : (z.cps.toList.map fun c => decide (c ∈ abc.cps.toList)).all id = z.cps.toList.all fun c => decide (97 ≤ c) && decide (c ≤ 122) := by
              rw [List.all_map]
              congr 1
              funext c
              exact abc_iff c
            rw [e]
            exact k _ (same_upd hD)
        · rw [decide_eq_false (show ¬ (z.length : Int) ≤ 8 by omega)]
          rw [decide_eq_false c2, Bool.and_false, Bool.false_and] at k
          exact iteT (k _ (Same.refl _))
      · rw [decide_eq_false (show ¬ (1 : Int) ≤ (z.length : Int) by omega)]
        rw [decide_eq_false c1, Bool.false_and, Bool.false_and] at k
        exact iteF ⟨_, rfl, iteT (k _ (Same.refl _))⟩
end
end Q4

namespace Q4
open PySem PySem.Spec PyProof.Rows L2 KT
open PySem.W (Frag)
theorem hu65 {A : Around} {k : Nat} (hr : Room k A) : A.units + 65 < cLine := by have := hr.un; omega
def D.isSig : D → Bool
  | .t [.s g, _, _] => (sgOf g).isSome
  | _ => false
def D.isKd (d : D) : Bool := d.ty.isSome
theorem signs_any (g : Str) : ([PyData.str "over", .str "then", .str "under"].any fun z => PyData.eqv z (.str g)) = (sgOf g).isSome := by
  have e : ∀ a : Str, PyData.eqv (.str a) (.str g) = decide (g = a) := fun a => by
    simp only [PyData.eqv]
    rw [Bool.eq_iff_iff, beq_iff_eq, decide_eq_true_eq]
    exact eq_comm
  simp only [List.any_cons, List.any_nil, Bool.or_false, e]
  unfold sgOf
  by_cases h1 : g = "over"
  · rw [if_pos h1, decide_eq_true h1]; rfl
  · rw [if_neg h1, decide_eq_false h1]
    by_cases h2 : g = "then"
    · rw [if_pos h2, decide_eq_true h2]; rfl
    · rw [if_neg h2, decide_eq_false h2]
      by_cases h3 : g = "under"
      · rw [if_pos h3, decide_eq_true h3]; rfl
      · rw [if_neg h3, decide_eq_false h3]; rfl
theorem signs_any0 (d : D) (h : d.isStr = false) : ([PyData.str "over", .str "then", .str "under"].any fun z => PyData.eqv z d.py) = false := by
  cases d with
  | s z => cases h
  | i n => simp [D.py, PyData.eqv]
  | o => simp [D.py, PyData.eqv]
  | t l => simp [D.py, PyData.eqv]
theorem isSig_ty {d : D} (h : d.isSig = true) : ∃ g a b, d = .t [.s g, a, b] ∧ d.isKd = (a.isKd && b.isKd) := by
  unfold D.isSig at h
  split at h
  · rename_i g a b
    refine ⟨g, a, b, rfl, ?_⟩
    obtain ⟨g', hg⟩ := Option.isSome_iff_exists.mp h
    simp only [D.isKd, D.ty, tyAll, mkTy]
    cases a.ty <;> cases b.ty <;> simp [hg]
  · cases h
theorem nsig_ty {d : D} (h : d.isSig = false) : d.isKd = d.isWord := by
  cases d with
  | s z =>
    simp only [D.isKd, D.ty, D.isWord]
    cases e : isWB z <;> simp
  | i n => simp [D.isKd, D.ty, D.isWord]
  | o => simp [D.isKd, D.ty, D.isWord]
  | t l =>
    simp only [D.isKd, D.ty, D.isWord]
    cases e : mkTy l (tyAll l) with
    | none => rfl
    | some t =>
      obtain ⟨g, x, y, a, b, rfl, _, _⟩ := mkTy_inv e
      simp [D.isSig, sgOf_str] at h
theorem dep_head {a : D} {r : List D} {n : Nat} (h : (D.t (a :: r)).dep ≤ n + 1) : a.dep ≤ n ∧ depAll r ≤ n := by
  simp only [D.dep, depAll] at h
  omega
section
variable {P : Program} {w : World} {K : Frag} {mg : Str → Option Value} {base : Heap}
def spIsSignedD : Sp := fun vs H Q _ => ∃ v d, vs = [v] ∧ DAt H v d ∧ d.dep ≤ 60 ∧ Q (.bl d.isSig) H
theorem ok_isSignedD {f : Addr} {fd : FuncData} (T : Top K mg "_is_signed" sIsSigned pIsSigned f fd) (B : Blt mg) (G : Gbl K mg) : FnOk P w K mg base CX0 1 f fd pIsSigned spIsSignedD := by
  obtain ⟨sa, gs, hs⟩ := G.signs
  refine T.F.ok scIsSigned (fun vs H Q E h => ?_) (fun cdv A outer s H vs Q E hr h => ?_)
  · obtain ⟨_, _, rfl, _⟩ := h
    rfl
  · obtain ⟨v, d, rfl, hd, hdep, k⟩ := h
    refine ⟨_, pss_one (ps_ret (pe_and (pe_callB call_isi (by rfl) B.isi (by decide +kernel) (pa_cons (pv 0) (pa_cons (pe_bltn (v := .ty "tuple") (by rfl) B.tuple (by decide +kernel) rfl) pa_nil))) (pe_and (pe_cmpR op_eq (pe_callB call_len_seq (by rfl) B.len PySem.boot_len (pa_cons (pv 0) pa_nil)) pe_int (nomark _)) (pe_one (pe_cmpR (KT.op_inDT (hu65 hr)) (pe_ix ix_tup (pv 0) pe_int (fun _ _ => rfl)) (pe_glob (v := .ref sa) rfl gs rfl) (by rfl)))))), ?_⟩
    refine ⟨_, rfl, _, _, _, _, d.isTup, rfl, .ty "tuple", hd.tyx, d.ktup, _, rfl, ?_⟩
    cases hd with
    | s h => exact k
    | i n => exact k
    | o => exact k
    | @t p xs ds e h =>
      have hl := h.length
      refine ⟨_, rfl, p, xs, rfl, .inr (SqT.of e), rfl, _, rfl, ?_⟩
      by_cases c : xs.length = 3
      · rw [decide_eq_true (show (V.int (xs.length : Int)) = V.int 3 by rw [c]; rfl)]
        cases h with
        | nil => simp at c
        | @cons x xs d0 ds h0 h =>
          cases h with
          | nil => simp at c
          | @cons x1 xs d1 ds h1 h =>
            cases h with
            | nil => simp at c
            | @cons x2 xs d2 ds h2 h =>
              cases h with
              | cons _ _ => simp at c
              | nil =>
                have dd := (dep_head (n := 59) hdep).1
                have hp := (DAt.py (K := K) h0).1
                refine ⟨_, rfl, p, _, _, _, rfl, rfl, SqT.of e, atI_nat (j := 0) rfl, d0.py, _, hp, .tup (sqT_any hs) (.cons (.str _) (.cons (.str _) (.cons (.str _) .nil))), DAt.shaped (K := K) h0 (by omega), by decide +kernel, ?_⟩
                rw [if_neg (by decide)]
                cases h0 with
                | s h => rw [show (D.s _).py = PyData.str _ from rfl, signs_any]; exact k
                | i n => rw [signs_any0 _ rfl]; exact k
                | o => rw [signs_any0 _ rfl]; exact k
                | t e h => rw [signs_any0 _ rfl]; exact k
      · rw [decide_eq_false (show ¬ (V.int (xs.length : Int)) = V.int 3 from fun z => c (by injection z with z; omega))]
        have e0 : (D.t ds).isSig = false := by
          unfold D.isSig
          split
          · rename_i g a b heq
            injection heq with heq
            rw [heq] at hl
            exact absurd hl c
          · rfl
        rw [e0] at k
        exact k
def spIsKindD : Sp := fun vs H Q _ => ∃ v d, vs = [v] ∧ DAt H v d ∧ d.dep ≤ 60 ∧ d.size ≤ 1000000 ∧ ∀ H', Same H H' → Q (.bl d.isKd) H'
theorem ok_isKindD {f fs fw : Addr} {fd fds fdw : FuncData} (T : Top K mg "is_kind" sIsKind pIsKind f fd) (TS : Top K mg "_is_signed" sIsSigned pIsSigned fs fds) (TW : Top K mg "is_word" sIsWord pIsWord fw fdw) (B : Blt mg) (G : Gbl K mg) :
    FnOk P w K mg base CX0 2 f fd pIsKind spIsKindD := by
  have GS : FnOk P w K mg base CX0 1 fs fds pIsSigned spIsSignedD := ok_isSignedD TS B G
  have GW : FnOk P w K mg base CX0 1 fw fdw pIsWord spIsWordD := ok_isWordD TW B G
  refine T.F.ok scIsKind (fun vs H Q E h => ?_) (fun cdv A outer s H vs Q E hr h => ?_)
  · obtain ⟨_, _, rfl, _⟩ := h
    rfl
  · obtain ⟨v, d, rfl, hd, hdep, hz, k⟩ := h
    refine ⟨_, (pss_cons (ps_set (i := 1) scIsKind.nd rfl (Or.inl rfl) (pe_lst (pa_cons (pv 0) pa_nil)))
      (pss_cons (ps_while PassesOwn.never (pt_truth (pv 1) (by intro _; rfl))
        (pss_cons (ps_set (i := 2) scIsKind.nd rfl (Or.inl rfl) (pe_bm0 PySem.F.plainAttrs_list PySem.F.slot_list_pop PySem.F.type_list_pop mt_pop (pv 1)))
      (pss_one (ps_if (pt_val (pe_call GS hr rfl TS.g TS.F.kp TS.b .nil pass0 (pa_cons (pv 2) pa_nil))) (pss_one (ps_expr (pe_bm PySem.F.plainAttrs_list PySem.F.slot_list_extend PySem.F.type_list_extend KT.mt_extT (pv 1) (pa_cons (pe_slice sl_tup (pv 2) (po_some pe_int) po_none) pa_nil))))
            (pss_one (ps_if (pt_not (pt_val (pe_call GW hr rfl TW.g TW.F.kp TW.b .nil pass0 (pa_cons (pv 2) pa_nil)))) (pss_one (ps_ret pe_bl)) pss_nil))))))
      (pss_one (ps_ret pe_bl)))), ?_⟩
    refine ⟨v, rfl, by show 1 ≤ sizeLine; rw [sizeLine_eq]; omega, fun W hW => ?_⟩
    refine ⟨fun m σ H' => ∃ (vs : List V) (ds : List D) (v2 : Option V), σ = [some v, some (.ref W), v2] ∧ H' W = some (.lst vs.reverse) ∧ DsAt H' vs ds ∧ sizeAll ds = m ∧ m ≤ 1000000 ∧ (∀ u ∈ ds, u.dep ≤ 60) ∧ d.isKd = ds.all D.isKd ∧ Same H H',
      ⟨d.size, [v], [d], none, rfl, upd_same, .cons (hd.mono (TK.upd_new hW)) .nil, by simp [sizeAll], hz, fun u hu => by rw [List.mem_singleton.mp hu]; exact hdep, by simp, same_upd hW⟩, ?_⟩
    rintro m σ H1 ⟨vs, ds, v2, rfl, hL, hT, rfl, hm, hdp, hall, hs⟩
    refine ⟨_, rfl, _, .inl ⟨_, SqL.of hL, rfl⟩, ?_⟩
    cases hT with
    | nil =>
      have q := k H1 hs
      rw [hall] at q
      exact iteF q
    | @cons y vs u ds h1 h2 =>
      have el : (y :: vs).reverse = vs.reverse ++ [y] := List.reverse_cons
      have c : (!(y :: vs).reverse.isEmpty) = true := by rw [el]; simp
      rw [c]
      have hm' : u.size + sizeAll ds ≤ 1000000 := hm
      have up := u.size_pos
      refine iteT ⟨fun σ' H' => ∃ m' < sizeAll (u :: ds), ∃ (vs : List V) (ds : List D) (v2 : Option V), σ' = [some v, some (.ref W), v2] ∧ H' W = some (.lst vs.reverse) ∧ DsAt H' vs ds ∧ sizeAll ds = m' ∧ m' ≤ 1000000 ∧ (∀ u ∈ ds, u.dep ≤ 60) ∧ d.isKd = ds.all D.isKd ∧ Same H H', fun σ' H' q => q, ?_⟩
      refine ⟨_, rfl, .inl ⟨rfl, _, SqL.of hL⟩, W, _, y, rfl, rfl, hL, by rw [el]; simp, ?_⟩
      have ed : (y :: vs).reverse.dropLast = vs.reverse := by rw [el]; simp
      rw [ed]
      have tk : TK H1 (upd H1 W (.lst vs.reverse)) := TK.upd_lst hL
      have hs' : Same H (upd H1 W (.lst vs.reverse)) := same_over hs hW
      have h1' := h1.mono tk
      rw [List.all_cons] at hall
      refine ⟨y, rfl, y, u, rfl, h1', hdp u List.mem_cons_self, _, rfl, ?_⟩
      cases sg : u.isSig with
      | false =>
        refine iteF ⟨_, rfl, y, u, rfl, h1', fun H2 s2 => ⟨_, rfl, ?_⟩⟩
        rw [nsig_ty sg] at hall
        cases ww : u.isWord with
        | false =>
          rw [ww, Bool.false_and] at hall
          have q := k H2 (hs'.trans s2)
          rw [hall] at q
          exact iteT q
        | true =>
          rw [ww, Bool.true_and] at hall
          exact iteF ⟨sizeAll ds, by show _ < u.size + sizeAll ds; omega, vs, ds, _, rfl, s2 _ _ upd_same, h2.mono (tk.trans (TK.of_same s2)), rfl, by omega, fun z hz => hdp z (List.mem_cons_of_mem _ hz), hall, hs'.trans s2⟩
      | true =>
        obtain ⟨g, a, b, rfl, ek⟩ := isSig_ty sg
        rw [ek] at hall
        have dd := hdp _ List.mem_cons_self
        have da : a.dep ≤ 60 ∧ b.dep ≤ 60 := by
          simp only [D.dep, depAll] at dd
          omega
        have sz : (D.t [.s g, a, b]).size = a.size + b.size + 2 := by simp only [D.size, sizeAll]; omega
        cases h1 with
        | @t p xs _ e h =>
          cases h with
          | @cons x0 xs _ _ k0 h => cases h with
            | @cons x1 xs _ _ k1 h => cases h with
              | @cons x2 xs _ _ k2 h => cases h with
                | nil =>
                  refine iteT ⟨_, rfl, .inl ⟨rfl, _, SqL.of upd_same⟩, _, rfl, _, rfl, p, _, rfl, SqT.of (tk _ _ e), cut_not, fun p' hp => ?_⟩
                  have np : W ≠ p' := ne_of_none upd_same hp
                  have l1 := h2.length
                  have l2 : ds.length ≤ sizeAll ds := by
                    clear hm hm' hall hdp h2 sz k hs l1
                    induction ds with
                    | nil => exact Nat.zero_le _
                    | cons z r ih =>
                      have := z.size_pos
                      simp only [List.length_cons, sizeAll]
                      omega
                  refine ⟨W, p', _, _, rfl, rfl, by rw [upd_ne np, upd_same], SqT.of upd_same, ?_, ?_⟩
                  · show vs.reverse.length + 2 ≤ sizeLine
                    rw [List.length_reverse, sizeLine_eq]
                    omega
                  · have tk2 : TK H1 (upd (upd (upd H1 W (.lst vs.reverse)) p' (.tup [x1, x2])) W (.lst (vs.reverse ++ [x1, x2]))) := (tk.trans (TK.upd_new hp)).trans (TK.upd_lst (by rw [upd_ne np, upd_same]))
                    refine ⟨b.size + (a.size + sizeAll ds), ?_, x2 :: x1 :: vs, b :: a :: ds, _, rfl, ?_, .cons (k2.mono tk2) (.cons (k1.mono tk2) (h2.mono tk2)), rfl, ?_, ?_, ?_, ?_⟩
                    · show _ < (D.t [.s g, a, b]).size + sizeAll ds
                      omega
                    · rw [upd_same]
                      simp
                      rfl
                    · omega
                    · intro z hz
                      rcases List.mem_cons.mp hz with rfl | hz
                      · exact da.2
                      · rcases List.mem_cons.mp hz with rfl | hz
                        · exact da.1
                        · exact hdp z (List.mem_cons_of_mem _ hz)
                    · rw [hall, List.all_cons, List.all_cons, ← Bool.and_assoc, Bool.and_comm b.isKd]
                    · exact same_over (hs'.trans (same_upd hp)) hW
end
end Q4

namespace Q4
open PySem PySem.Spec PyProof.Rows L2 KT
open PySem.W (Frag)
/-! ### the form of knots -/
inductive Fm : D → Prop
  | is {x : D} : x.isKd = true → Fm (.t [.s "is", x])
  | om {x : D} : Fm (.t [.s "over made", x])
  | um {x : D} : Fm (.t [.s "under made", x])
  | tm {x y : D} : Fm (.t [.s "then made", x, y])
  | tu {p : Int} {y : D} : 0 ≤ p → Fm (.t [.s "then used", .i p, y])
  | ou {p : Int} {x y : D} : 0 ≤ p → Fm (.t [.s "over used", .i p, x, y])
  | uu {p : Int} {x y : D} : 0 ≤ p → Fm (.t [.s "under used", .i p, x, y])
  | ct {p : Int} {x y : D} : 0 ≤ p → Fm (.t [.s "cut", .i p, x, y])
theorem fm_of {u : D} (h : u.formed = true) : Fm u := by
  unfold D.formed at h
  split at h
  · rename_i nm x
    split at h
    · rename_i e
      subst e
      exact .is h
    · rw [Bool.or_eq_true, decide_eq_true_eq, decide_eq_true_eq] at h
      rcases h with e | e
      · subst e; exact .om
      · subst e; exact .um
  · rename_i nm x y
    rw [Bool.or_eq_true, Bool.and_eq_true, decide_eq_true_eq, decide_eq_true_eq] at h
    rcases h with e | ⟨e, h⟩
    · subst e; exact .tm
    · subst e
      split at h
      · exact .tu (of_decide_eq_true h)
      · cases h
  · rename_i nm x y z
    rw [Bool.and_eq_true] at h
    obtain ⟨h1, h2⟩ := h
    split at h2
    · have hp := of_decide_eq_true h2
      unfold placed at h1
      rw [Bool.or_eq_true, Bool.or_eq_true, decide_eq_true_eq, decide_eq_true_eq, decide_eq_true_eq] at h1
      rcases h1 with (e | e) | e
      · subst e; exact .ou hp
      · subst e; exact .uu hp
      · subst e; exact .ct hp
    · cases h2
  · cases h
theorem Fm.formed {u : D} (h : Fm u) : u.formed = true := by
  cases h with
  | is h => exact h
  | om => rfl
  | um => rfl
  | tm => rfl
  | tu h => simp [D.formed, h]
  | ou h => simp [D.formed, h, placed]
  | uu h => simp [D.formed, h, placed]
  | ct h => simp [D.formed, h, placed]
def PL : List Str := ["over used", "under used", "then used", "cut"]
/-- where a knot's parts stand -/
theorem Fm.head {u : D} (h : Fm u) : ∃ nm r, u = .t (.s nm :: r) ∧ TxtOk nm ∧ u.parts = if nm = "is" then [] else r.drop (if nm ∈ PL then 1 else 0) := by
  cases h with
  | is h => exact ⟨_, _, rfl, ⟨by decide +kernel, by decide +kernel⟩, rfl⟩
  | om => exact ⟨_, _, rfl, ⟨by decide +kernel, by decide +kernel⟩, rfl⟩
  | um => exact ⟨_, _, rfl, ⟨by decide +kernel, by decide +kernel⟩, rfl⟩
  | tm => exact ⟨_, _, rfl, ⟨by decide +kernel, by decide +kernel⟩, rfl⟩
  | tu h => exact ⟨_, _, rfl, ⟨by decide +kernel, by decide +kernel⟩, rfl⟩
  | ou h => exact ⟨_, _, rfl, ⟨by decide +kernel, by decide +kernel⟩, rfl⟩
  | uu h => exact ⟨_, _, rfl, ⟨by decide +kernel, by decide +kernel⟩, rfl⟩
  | ct h => exact ⟨_, _, rfl, ⟨by decide +kernel, by decide +kernel⟩, rfl⟩
theorem allK_fm {u : D} (h : u.allK = true) : Fm u ∧ ∀ p ∈ u.parts, p.allK = true := by
  cases u with
  | s z => cases h
  | i n => cases h
  | o => cases h
  | t l =>
    simp only [D.allK, allKOf, Bool.and_eq_true] at h
    obtain ⟨h1, h2⟩ := h
    have f := fm_of h1
    refine ⟨f, ?_⟩
    cases f with
    | is _ => intro p hp; cases hp
    | om => intro p hp; rw [List.mem_singleton.mp hp]; exact h2
    | um => intro p hp; rw [List.mem_singleton.mp hp]; exact h2
    | tm =>
      have h2 : (_ && _) = true := h2
      rw [Bool.and_eq_true] at h2
      intro p hp
      rcases List.mem_cons.mp hp with rfl | hp
      · exact h2.1
      · rw [List.mem_singleton.mp hp]; exact h2.2
    | tu _ => intro p hp; rw [List.mem_singleton.mp hp]; exact h2
    | ou _ =>
      have h2 : (_ && _) = true := h2
      rw [Bool.and_eq_true] at h2
      intro p hp
      rcases List.mem_cons.mp hp with rfl | hp
      · exact h2.1
      · rw [List.mem_singleton.mp hp]; exact h2.2
    | uu _ =>
      have h2 : (_ && _) = true := h2
      rw [Bool.and_eq_true] at h2
      intro p hp
      rcases List.mem_cons.mp hp with rfl | hp
      · exact h2.1
      · rw [List.mem_singleton.mp hp]; exact h2.2
    | ct _ =>
      have h2 : (_ && _) = true := h2
      rw [Bool.and_eq_true] at h2
      intro p hp
      rcases List.mem_cons.mp hp with rfl | hp
      · exact h2.1
      · rw [List.mem_singleton.mp hp]; exact h2.2
theorem fm_allK {u : D} (f : Fm u) (h : ∀ p ∈ u.parts, p.allK = true) : u.allK = true := by
  have h1 := f.formed
  cases f with
  | is _ => simp only [D.allK, allKOf, h1, Bool.true_and]; rfl
  | om => simp only [D.allK, allKOf, h1, Bool.true_and]; exact h _ List.mem_cons_self
  | um => simp only [D.allK, allKOf, h1, Bool.true_and]; exact h _ List.mem_cons_self
  | tm => simp only [D.allK, allKOf, h1, Bool.true_and]; exact Bool.and_eq_true_iff.mpr ⟨h _ List.mem_cons_self, h _ (List.mem_cons_of_mem _ List.mem_cons_self)⟩
  | tu _ => simp only [D.allK, allKOf, h1, Bool.true_and]; exact h _ List.mem_cons_self
  | ou _ => simp only [D.allK, allKOf, h1, Bool.true_and]; exact Bool.and_eq_true_iff.mpr ⟨h _ List.mem_cons_self, h _ (List.mem_cons_of_mem _ List.mem_cons_self)⟩
  | uu _ => simp only [D.allK, allKOf, h1, Bool.true_and]; exact Bool.and_eq_true_iff.mpr ⟨h _ List.mem_cons_self, h _ (List.mem_cons_of_mem _ List.mem_cons_self)⟩
  | ct _ => simp only [D.allK, allKOf, h1, Bool.true_and]; exact Bool.and_eq_true_iff.mpr ⟨h _ List.mem_cons_self, h _ (List.mem_cons_of_mem _ List.mem_cons_self)⟩
def nodesAll : List D → List D
  | [] => []
  | d :: r => d.nodes ++ nodesAll r
theorem Fm.nodes {u : D} (f : Fm u) : u.nodes = u :: nodesAll u.parts.reverse := by
  have e1 : ("over made" : Str) ≠ "is" := by decide
  have e2 : ("under made" : Str) ≠ "is" := by decide
  have e3 : ("then made" : Str) ≠ "then used" := by decide
  cases f <;> simp [D.nodes, nodesOf, nodesLs, D.parts, nodesAll, e1, e2, e3]
theorem Fm.psize {u : D} (f : Fm u) : sizeAll u.parts < u.size ∧ u.parts.length ≤ 2 := by
  have e1 : ("over made" : Str) ≠ "is" := by decide
  have e2 : ("under made" : Str) ≠ "is" := by decide
  have e3 : ("then made" : Str) ≠ "then used" := by decide
  cases f <;> simp [D.parts, D.size, sizeAll, e1, e2, e3] <;> omega
theorem sizeAll_app : ∀ l r : List D, sizeAll (l ++ r) = sizeAll l + sizeAll r
  | [], r => by simp [sizeAll]
  | d :: l, r => by simp only [List.cons_append, sizeAll, sizeAll_app l r]; omega
theorem sizeAll_rev (l : List D) : sizeAll l.reverse = sizeAll l := by
  induction l with
  | nil => rfl
  | cons d r ih => rw [List.reverse_cons, sizeAll_app, ih]; simp only [sizeAll]; omega
theorem len_size : ∀ l : List D, l.length ≤ sizeAll l
  | [] => Nat.zero_le _
  | d :: r => by
    have := d.size_pos
    have := len_size r
    simp only [List.length_cons, sizeAll]
    omega
theorem nodesAll_app : ∀ l r : List D, nodesAll (l ++ r) = nodesAll l ++ nodesAll r
  | [], r => rfl
  | d :: l, r => by simp only [List.cons_append, nodesAll, nodesAll_app l r, List.append_assoc]
theorem DsAt.drop {H : Hp} {vs : List V} {ds : List D} (h : DsAt H vs ds) : ∀ n, DsAt H (vs.drop n) (ds.drop n) := by
  intro n
  induction n generalizing vs ds with
  | zero => exact h
  | succ n ih =>
    cases h with
    | nil => exact .nil
    | cons a r => exact ih r
theorem DsAt.rev {H : Hp} {vs : List V} {ds : List D} (h : DsAt H vs ds) : DsAt H vs.reverse ds.reverse := by
  induction ds generalizing vs with
  | nil => cases h; exact .nil
  | cons d r ih =>
    cases h with
    | cons a s => rw [List.reverse_cons, List.reverse_cons]; exact (ih s).append (.cons a .nil)
theorem cutV_from {xs : List V} {b : Nat} : cutV xs (some (b : Int)) none = xs.drop b := by
  unfold cutV
  rw [HT.sIx_nat]
  have e : HT.sIx xs.length xs.length none = xs.length := rfl
  rw [e]
  by_cases h : b ≤ xs.length
  · rw [Nat.min_eq_left h]
    exact List.take_of_length_le (by simp)
  · rw [Nat.min_eq_right (by omega), List.drop_of_length_le (by omega : xs.length ≤ b), Nat.sub_self, List.take_zero]
/-- the module's own tables -/
structure Gb5 (K : Frag) (w : World) (mg : Str → Option Value) : Prop where
  pl : ∃ a, mg "_PLACED" = some (.ref a) ∧ SqT K (fun _ => none) a (PL.map V.str)
section
variable {P : Program} {w : World} {K : Frag} {mg : Str → Option Value} {base : Heap}
def spBegin : Sp := fun vs H Q _ => ∃ nm, vs = [.str nm] ∧ Q (.int ((if nm ∈ PL then 2 else 1 : Nat) : Int)) H
def spPartsK : Sp := fun vs H Q _ => ∃ v u, vs = [v] ∧ DAt H v u ∧ Fm u ∧ ∀ p us, H p = none → DsAt H us u.parts → Q (.ref p) (upd H p (.tup us))
end
end Q4

namespace Q4
open PySem PySem.Spec PyProof.Rows L2 KT
open PySem.W (Frag)
@[simp] theorem nm01 : (("is" : Str) = "over made") = False := eq_false (by decide)
@[simp] theorem nm02 : (("is" : Str) = "under made") = False := eq_false (by decide)
@[simp] theorem nm03 : (("is" : Str) = "then made") = False := eq_false (by decide)
@[simp] theorem nm04 : (("is" : Str) = "over used") = False := eq_false (by decide)
@[simp] theorem nm05 : (("is" : Str) = "under used") = False := eq_false (by decide)
@[simp] theorem nm06 : (("is" : Str) = "then used") = False := eq_false (by decide)
@[simp] theorem nm07 : (("is" : Str) = "cut") = False := eq_false (by decide)
@[simp] theorem nm10 : (("over made" : Str) = "is") = False := eq_false (by decide)
@[simp] theorem nm12 : (("over made" : Str) = "under made") = False := eq_false (by decide)
@[simp] theorem nm13 : (("over made" : Str) = "then made") = False := eq_false (by decide)
@[simp] theorem nm14 : (("over made" : Str) = "over used") = False := eq_false (by decide)
@[simp] theorem nm15 : (("over made" : Str) = "under used") = False := eq_false (by decide)
@[simp] theorem nm16 : (("over made" : Str) = "then used") = False := eq_false (by decide)
@[simp] theorem nm17 : (("over made" : Str) = "cut") = False := eq_false (by decide)
@[simp] theorem nm20 : (("under made" : Str) = "is") = False := eq_false (by decide)
@[simp] theorem nm21 : (("under made" : Str) = "over made") = False := eq_false (by decide)
@[simp] theorem nm23 : (("under made" : Str) = "then made") = False := eq_false (by decide)
@[simp] theorem nm24 : (("under made" : Str) = "over used") = False := eq_false (by decide)
@[simp] theorem nm25 : (("under made" : Str) = "under used") = False := eq_false (by decide)
@[simp] theorem nm26 : (("under made" : Str) = "then used") = False := eq_false (by decide)
@[simp] theorem nm27 : (("under made" : Str) = "cut") = False := eq_false (by decide)
@[simp] theorem nm30 : (("then made" : Str) = "is") = False := eq_false (by decide)
@[simp] theorem nm31 : (("then made" : Str) = "over made") = False := eq_false (by decide)
@[simp] theorem nm32 : (("then made" : Str) = "under made") = False := eq_false (by decide)
@[simp] theorem nm34 : (("then made" : Str) = "over used") = False := eq_false (by decide)
@[simp] theorem nm35 : (("then made" : Str) = "under used") = False := eq_false (by decide)
@[simp] theorem nm36 : (("then made" : Str) = "then used") = False := eq_false (by decide)
@[simp] theorem nm37 : (("then made" : Str) = "cut") = False := eq_false (by decide)
@[simp] theorem nm40 : (("over used" : Str) = "is") = False := eq_false (by decide)
@[simp] theorem nm41 : (("over used" : Str) = "over made") = False := eq_false (by decide)
@[simp] theorem nm42 : (("over used" : Str) = "under made") = False := eq_false (by decide)
@[simp] theorem nm43 : (("over used" : Str) = "then made") = False := eq_false (by decide)
@[simp] theorem nm45 : (("over used" : Str) = "under used") = False := eq_false (by decide)
@[simp] theorem nm46 : (("over used" : Str) = "then used") = False := eq_false (by decide)
@[simp] theorem nm47 : (("over used" : Str) = "cut") = False := eq_false (by decide)
@[simp] theorem nm50 : (("under used" : Str) = "is") = False := eq_false (by decide)
@[simp] theorem nm51 : (("under used" : Str) = "over made") = False := eq_false (by decide)
@[simp] theorem nm52 : (("under used" : Str) = "under made") = False := eq_false (by decide)
@[simp] theorem nm53 : (("under used" : Str) = "then made") = False := eq_false (by decide)
@[simp] theorem nm54 : (("under used" : Str) = "over used") = False := eq_false (by decide)
@[simp] theorem nm56 : (("under used" : Str) = "then used") = False := eq_false (by decide)
@[simp] theorem nm57 : (("under used" : Str) = "cut") = False := eq_false (by decide)
@[simp] theorem nm60 : (("then used" : Str) = "is") = False := eq_false (by decide)
@[simp] theorem nm61 : (("then used" : Str) = "over made") = False := eq_false (by decide)
@[simp] theorem nm62 : (("then used" : Str) = "under made") = False := eq_false (by decide)
@[simp] theorem nm63 : (("then used" : Str) = "then made") = False := eq_false (by decide)
@[simp] theorem nm64 : (("then used" : Str) = "over used") = False := eq_false (by decide)
@[simp] theorem nm65 : (("then used" : Str) = "under used") = False := eq_false (by decide)
@[simp] theorem nm67 : (("then used" : Str) = "cut") = False := eq_false (by decide)
@[simp] theorem nm70 : (("cut" : Str) = "is") = False := eq_false (by decide)
@[simp] theorem nm71 : (("cut" : Str) = "over made") = False := eq_false (by decide)
@[simp] theorem nm72 : (("cut" : Str) = "under made") = False := eq_false (by decide)
@[simp] theorem nm73 : (("cut" : Str) = "then made") = False := eq_false (by decide)
@[simp] theorem nm74 : (("cut" : Str) = "over used") = False := eq_false (by decide)
@[simp] theorem nm75 : (("cut" : Str) = "under used") = False := eq_false (by decide)
@[simp] theorem nm76 : (("cut" : Str) = "then used") = False := eq_false (by decide)
def MANY (z : Str) : Option Nat := if z = "is" then some 0 else if z = "over made" then some 1 else if z = "under made" then some 1 else if z = "then made" then some 2 else if z = "over used" then some 2 else if z = "under used" then some 2 else if z = "then used" then some 1 else if z = "cut" then some 2 else none
def D.isCnt : D → Bool
  | .i n => decide (0 ≤ n)
  | _ => false
/-- the same, as the program asks it -/
def formB (nm : Str) (r : List D) : Bool := match MANY nm with
  | none => false
  | some m => if nm = "is" then decide (r.length = 1) && (r.getD 0 .o).isKd else if 1 + r.length = (if nm ∈ PL then 2 else 1) + m then !decide (nm ∈ PL) || (r.getD 0 .o).isCnt else false
theorem formed_eq (nm : Str) (r : List D) : (D.t (.s nm :: r)).formed = formB nm r := by
  unfold formB
  by_cases h1 : nm = "is"
  · subst h1
    rcases r with _ | ⟨a, _ | ⟨b, _ | ⟨c, _ | ⟨d, r⟩⟩⟩⟩ <;> simp [D.formed, MANY, D.isKd, placed]
  by_cases h2 : nm = "over made"
  · subst h2
    rcases r with _ | ⟨a, _ | ⟨b, _ | ⟨c, _ | ⟨d, r⟩⟩⟩⟩ <;> simp [D.formed, MANY, PL, placed] <;> omega
  by_cases h3 : nm = "under made"
  · subst h3
    rcases r with _ | ⟨a, _ | ⟨b, _ | ⟨c, _ | ⟨d, r⟩⟩⟩⟩ <;> simp [D.formed, MANY, PL, placed] <;> omega
  by_cases h4 : nm = "then made"
  · subst h4
    rcases r with _ | ⟨a, _ | ⟨b, _ | ⟨c, _ | ⟨d, r⟩⟩⟩⟩ <;> simp [D.formed, MANY, PL, placed] <;> omega
  by_cases h5 : nm = "over used"
  · subst h5
    rcases r with _ | ⟨a, _ | ⟨b, _ | ⟨c, _ | ⟨d, r⟩⟩⟩⟩ <;> simp [D.formed, MANY, PL, placed] <;> first | (intro z; omega) | (cases a <;> simp [D.isCnt])
  by_cases h6 : nm = "under used"
  · subst h6
    rcases r with _ | ⟨a, _ | ⟨b, _ | ⟨c, _ | ⟨d, r⟩⟩⟩⟩ <;> simp [D.formed, MANY, PL, placed] <;> first | (intro z; omega) | (cases a <;> simp [D.isCnt])
  by_cases h7 : nm = "then used"
  · subst h7
    rcases r with _ | ⟨a, _ | ⟨b, _ | ⟨c, _ | ⟨d, r⟩⟩⟩⟩ <;> simp [D.formed, MANY, PL, placed] <;> first | (intro z; omega) | (cases a <;> simp [D.isCnt])
  by_cases h8 : nm = "cut"
  · subst h8
    rcases r with _ | ⟨a, _ | ⟨b, _ | ⟨c, _ | ⟨d, r⟩⟩⟩⟩ <;> simp [D.formed, MANY, PL, placed] <;> first | (intro z; omega) | (cases a <;> simp [D.isCnt])
  rcases r with _ | ⟨a, _ | ⟨b, _ | ⟨c, _ | ⟨d, r⟩⟩⟩⟩ <;> simp [D.formed, MANY, placed, h1, h2, h3, h4, h5, h6, h7, h8]
structure Gm5 (K : Frag) (w : World) (mg : Str → Option Value) : Prop where
  many : ∃ d es n, mg "_MANY_PARTS" = some (.ref d) ∧ KDict K w d es n ∧ ∀ z, ∃ r, PySem.W.nsIn K d z = some r ∧ r.isSome = (MANY z).isSome ∧ ∀ u, r = some u → ∃ m, MANY z = some m ∧ RelV (.int (m : Nat)) u
section
variable {P : Program} {w : World} {K : Frag} {mg : Str → Option Value} {base : Heap}
def spIsCountD : Sp := fun vs H Q _ => ∃ v d, vs = [v] ∧ DAt H v d ∧ Q (.bl d.isCnt) H
theorem formed_nstr {a : D} {r : List D} (h : a.isStr = false) : (D.t (a :: r)).formed = false := by
  cases a with
  | s z => cases h
  | i n => rcases r with _ | ⟨a, _ | ⟨b, _ | ⟨c, _ | ⟨d, r⟩⟩⟩⟩ <;> rfl
  | o => rcases r with _ | ⟨a, _ | ⟨b, _ | ⟨c, _ | ⟨d, r⟩⟩⟩⟩ <;> rfl
  | t l => rcases r with _ | ⟨a, _ | ⟨b, _ | ⟨c, _ | ⟨d, r⟩⟩⟩⟩ <;> rfl
theorem many_is {nm : Str} (h : nm = "is") : MANY nm = some 0 := by rw [h]; decide
def spHasForm : Sp := fun vs H Q _ => ∃ v d, vs = [v] ∧ DAt H v d ∧ d.dep ≤ 60 ∧ d.size ≤ 1000000 ∧ ∀ H', Same H H' → Q (.bl d.formed) H'
end
end Q4

namespace Q4
open PySem PySem.Spec PyProof.Rows L2 KT
open PySem.W (Frag)
theorem allK_eq (u : D) : u.allK = (u.formed && u.parts.all D.allK) := by
  rw [Bool.eq_iff_iff, Bool.and_eq_true, List.all_eq_true]
  constructor
  · intro h
    obtain ⟨f, g⟩ := allK_fm h
    exact ⟨f.formed, g⟩
  · rintro ⟨h, g⟩
    exact fm_allK (fm_of h) g
theorem parts_dep {u : D} (f : Fm u) {n : Nat} (h : u.dep ≤ n) : ∀ p ∈ u.parts, p.dep ≤ n := by
  have e1 : ("over made" : Str) ≠ "is" := by decide
  have e2 : ("under made" : Str) ≠ "is" := by decide
  have e3 : ("then made" : Str) ≠ "then used" := by decide
  cases f <;> simp [D.parts, D.dep, depAll, e1, e2, e3] at h ⊢ <;> omega
theorem all_rev (p : D → Bool) (l : List D) : l.reverse.all p = l.all p := List.all_reverse
section
variable {P : Program} {w : World} {K : Frag} {mg : Str → Option Value} {base : Heap}
def spAllKnots : Sp := fun vs H Q _ => ∃ v d, vs = [v] ∧ DAt H v d ∧ d.dep ≤ 60 ∧ d.size ≤ 1000000 ∧ ∀ H', Same H H' → Q (.bl d.allK) H'
end
end Q4

namespace Q4
open PySem PySem.Spec PyProof.Rows L2 LamX KT
open PySem.W (Frag)
theorem nodes_len : ∀ (n : Nat) (u : D), u.size ≤ n → u.allK = true → u.nodes.length ≤ u.size ∧ ∀ x ∈ u.nodes, x.allK = true := by
  intro n
  induction n with
  | zero => intro u h; have := u.size_pos; omega
  | succ n ih =>
    intro u h ha
    obtain ⟨f, hp⟩ := allK_fm ha
    obtain ⟨ps, _⟩ := f.psize
    rw [f.nodes]
    have key : ∀ l : List D, sizeAll l ≤ n → (∀ p ∈ l, p.allK = true) → (nodesAll l).length ≤ sizeAll l ∧ ∀ x ∈ nodesAll l, x.allK = true := by
      intro l
      induction l with
      | nil => intro _ _; exact ⟨Nat.le_refl _, fun x hx => by cases hx⟩
      | cons d r ihr =>
        intro hl hk
        simp only [sizeAll] at hl
        obtain ⟨a1, a2⟩ := ih d (by omega) (hk d List.mem_cons_self)
        obtain ⟨b1, b2⟩ := ihr (by omega) fun p hp => hk p (List.mem_cons_of_mem _ hp)
        refine ⟨by simp only [nodesAll, List.length_append, sizeAll]; omega, fun x hx => ?_⟩
        rcases List.mem_append.mp hx with hx | hx
        · exact a2 x hx
        · exact b2 x hx
    obtain ⟨a1, a2⟩ := key u.parts.reverse (by rw [sizeAll_rev]; omega) fun p hp' => hp p (List.mem_reverse.mp hp')
    rw [sizeAll_rev] at a1
    refine ⟨by rw [List.length_cons]; omega, fun x hx => ?_⟩
    rcases List.mem_cons.mp hx with e | hx
    · rw [e]; exact ha
    · exact a2 x hx
section
variable {P : Program} {w : World} {K : Frag} {mg : Str → Option Value} {base : Heap}
def spNodesK (fp : Addr) : Sp := fun vs H Q _ => ∃ v d, vs = [v, .ref fp] ∧ DAt H v d ∧ d.allK = true ∧ d.size ≤ 1000000 ∧
  ∀ (L : Addr) (us : List V) (H' : Hp), Same H H' → H L = none → H' L = some (.lst us) → DsAt H' us d.nodes → Q (.ref L) H'
end
end Q4

namespace Q4
open PySem PySem.Spec PyProof.Rows L2 LamX KT
open PySem.W (Frag)
inductive TlOf : D → Told → Prop
  | is {x : D} {k : Ty} : x.ty = some k → TlOf (.t [.s "is", x]) ([k], k)
  | om {x : D} {rx r : Told} : x.tl = some rx → madeO rx = some r → TlOf (.t [.s "over made", x]) r
  | um {x : D} {rx r : Told} : x.tl = some rx → madeU rx = some r → TlOf (.t [.s "under made", x]) r
  | tm {x y : D} {rx ry : Told} : x.tl = some rx → y.tl = some ry → TlOf (.t [.s "then made", x, y]) (thenM rx ry)
  | tu {p : Int} {y : D} {ry r : Told} : y.tl = some ry → thenU p ry = some r → TlOf (.t [.s "then used", .i p, y]) r
  | us {nm : Str} {p : Int} {x y : D} {rx ry r : Told} : placed nm = true → x.tl = some rx → y.tl = some ry → usedAt nm p rx ry = some r → TlOf (.t [.s nm, .i p, x, y]) r
theorem both_inv {f : Told → Told → Option Told} {a b : Option Told} {r : Told} (h : both f a b = some r) : ∃ x y, a = some x ∧ b = some y ∧ f x y = some r := by
  cases a with
  | none => cases h
  | some x => cases b with
    | none => cases h
    | some y => exact ⟨x, y, rfl, rfl, h⟩
theorem tl_inv {u : D} {r : Told} (h : u.tl = some r) : TlOf u r := by
  cases u with
  | s z => simp only [D.tl] at h; cases h
  | i n => simp only [D.tl] at h; cases h
  | o => simp only [D.tl] at h; cases h
  | t l =>
    simp only [D.tl] at h
    unfold tellOf at h
    split at h
    · rename_i nm x e0 rx e
      simp only [tlAll] at e
      injection e with _ e
      injection e with e1 _
      subst e1
      split at h
      · rename_i c
        subst c
        obtain ⟨k, h1, h2⟩ := Option.map_eq_some_iff.mp h
        rw [← h2]
        exact .is h1
      · split at h
        · rename_i c
          subst c
          obtain ⟨rx, h1, h2⟩ := Option.bind_eq_some_iff.mp h
          exact .om h1 h2
        · split at h
          · rename_i c
            subst c
            obtain ⟨rx, h1, h2⟩ := Option.bind_eq_some_iff.mp h
            exact .um h1 h2
          · cases h
    · rename_i nm x y e0 rx ry e
      simp only [tlAll] at e
      injection e with _ e
      injection e with e1 e
      injection e with e2 _
      subst e1
      subst e2
      split at h
      · rename_i c
        subst c
        obtain ⟨a, b, h1, h2, h3⟩ := both_inv h
        cases h3
        exact .tm h1 h2
      · split at h
        · rename_i c
          subst c
          split at h
          · obtain ⟨ry, h1, h2⟩ := Option.bind_eq_some_iff.mp h
            exact .tu h1 h2
          · cases h
        · cases h
    · rename_i nm p x y e0 e9 rx ry e
      simp only [tlAll] at e
      injection e with _ e
      injection e with _ e
      injection e with e1 e
      injection e with e2 _
      subst e1
      subst e2
      split at h
      · rename_i c
        obtain ⟨a, b, h1, h2, h3⟩ := both_inv h
        exact .us c h1 h2 h3
      · cases h
    · cases h
theorem tl_of {u : D} {r : Told} (h : TlOf u r) : u.tl = some r := by
  cases h with
  | is h => simp [D.tl, tellOf, tlAll, h]
  | om h1 h2 => simp [D.tl, tellOf, tlAll, h1, h2]
  | um h1 h2 => simp [D.tl, tellOf, tlAll, h1, h2]
  | tm h1 h2 => simp [D.tl, tellOf, tlAll, h1, h2, both]
  | tu h1 h2 => simp [D.tl, tellOf, tlAll, h1, h2]
  | us c h1 h2 h3 => simp [D.tl, tellOf, tlAll, h1, h2, both, c, h3]
theorem usedAt_p {nm : Str} {p : Int} {x y r : Told} (h : usedAt nm p x y = some r) : 0 ≤ p ∧ ∃ k, y.1[p.toNat]? = some k := by
  unfold usedAt at h
  split at h
  · rename_i c
    split at h
    · cases h
    · rename_i k e
      exact ⟨c, k, e⟩
  · cases h
theorem thenU_p {p : Int} {y r : Told} (h : thenU p y = some r) : 0 ≤ p := by
  unfold thenU at h
  split at h
  · assumption
  · cases h
/-- what tells something has a knot's form all through -/
theorem tl_allK : ∀ (n : Nat) (u : D) (r : Told), u.size ≤ n → u.tl = some r → u.allK = true := by
  intro n
  induction n with
  | zero => intro u r h; have := u.size_pos; omega
  | succ n ih =>
    intro u r hz h
    cases tl_inv h with
    | is hk => exact fm_allK (.is (by unfold D.isKd; rw [hk]; rfl)) fun p hp => by cases hp
    | om h1 h2 =>
      simp only [D.size, sizeAll] at hz
      exact fm_allK .om fun p hp => by rw [List.mem_singleton.mp hp]; exact ih _ _ (by omega) h1
    | um h1 h2 =>
      simp only [D.size, sizeAll] at hz
      exact fm_allK .um fun p hp => by rw [List.mem_singleton.mp hp]; exact ih _ _ (by omega) h1
    | tm h1 h2 =>
      simp only [D.size, sizeAll] at hz
      refine fm_allK .tm fun p hp => ?_
      rcases List.mem_cons.mp hp with rfl | hp
      · exact ih _ _ (by omega) h1
      · rw [List.mem_singleton.mp hp]; exact ih _ _ (by omega) h2
    | tu h1 h2 =>
      simp only [D.size, sizeAll] at hz
      exact fm_allK (.tu (thenU_p h2)) fun p hp => by rw [List.mem_singleton.mp hp]; exact ih _ _ (by omega) h1
    | @us nm p x y rx ry r c h1 h2 h3 =>
      simp only [D.size, sizeAll] at hz
      have hp := (usedAt_p h3).1
      have f : Fm (.t [.s nm, .i p, x, y]) := by
        unfold placed at c
        rw [Bool.or_eq_true, Bool.or_eq_true, decide_eq_true_eq, decide_eq_true_eq, decide_eq_true_eq] at c
        rcases c with (e | e) | e
        · subst e; exact .ou hp
        · subst e; exact .uu hp
        · subst e; exact .ct hp
      refine fm_allK f fun q hq => ?_
      rcases List.mem_cons.mp hq with rfl | hq
      · exact ih _ _ (by omega) h1
      · rw [List.mem_singleton.mp hq]; exact ih _ _ (by omega) h2
/-- what can be handled at once -/
def Small (r : Told) : Prop := r.1.length ≤ 40000 ∧ (∀ t ∈ r.1, t.d.dep ≤ 60) ∧ r.2.d.dep ≤ 60
theorem dep_n (g : Sg) (a b : Ty) : (Ty.n g a b).d.dep = max a.d.dep b.d.dep + 1 := by
  simp only [Ty.d, D.dep, depAll]
  omega
/-- bounds of what is told -/
def Bd (n m : Nat) (r : Told) : Prop := r.1.length ≤ n ∧ (∀ t ∈ r.1, t.d.dep ≤ m) ∧ r.2.d.dep ≤ m
theorem Bd.madeO {n m : Nat} {x r : Told} (h : Bd n m x) (e : madeO x = some r) : Bd n (m + 1) r := by
  obtain ⟨row, goal⟩ := x
  obtain ⟨h1, h2, h3⟩ := h
  simp only [Q4.madeO] at e
  split at e
  · cases e
  · rename_i c
    cases e
    refine ⟨?_, fun t ht => ?_, ?_⟩
    · show row.dropLast.length ≤ n
      rw [List.length_dropLast]
      have : row.length ≤ n := h1
      omega
    · have := h2 t ((List.dropLast_sublist row).mem ht)
      omega
    · show (Ty.n .ov goal _).d.dep ≤ _
      rw [dep_n]
      have hm : row.getLastD (.w "") ∈ row := by
        cases row with
        | nil => simp at c
        | cons a r => rw [List.getLastD_cons]; exact List.getLastD_mem_cons
      have q1 := h2 _ hm
      have q2 : goal.d.dep ≤ m := h3
      omega
theorem Bd.madeU {n m : Nat} {x r : Told} (h : Bd n m x) (e : madeU x = some r) : Bd n (m + 1) r := by
  obtain ⟨row, goal⟩ := x
  obtain ⟨h1, h2, h3⟩ := h
  unfold Q4.madeU at e
  split at e
  · rename_i a b r' g' he
    cases he
    cases e
    refine ⟨?_, fun t ht => ?_, ?_⟩
    · show (b :: r').length ≤ n
      have : (a :: b :: r').length ≤ n := h1
      simp only [List.length_cons] at this ⊢
      omega
    · have := h2 t (List.mem_cons_of_mem _ ht)
      omega
    · show (Ty.n .un a goal).d.dep ≤ _
      rw [dep_n]
      have q1 := h2 a List.mem_cons_self
      have q2 : goal.d.dep ≤ m := h3
      omega
  · cases e
theorem Bd.thenM {n n' m : Nat} {x y : Told} (h : Bd n m x) (h' : Bd n' m y) : Bd (n + n') (m + 1) (thenM x y) := by
  refine ⟨?_, fun t ht => ?_, ?_⟩
  · show (x.1 ++ y.1).length ≤ _
    rw [List.length_append]
    have := h.1
    have := h'.1
    omega
  · rcases List.mem_append.mp ht with q | q
    · have := h.2.1 t q; omega
    · have := h'.2.1 t q; omega
  · show (Ty.n .th x.2 y.2).d.dep ≤ _
    rw [dep_n]
    have := h.2.2
    have := h'.2.2
    omega
theorem Bd.thenU {n m : Nat} {p : Int} {y r : Told} (h : Bd n m y) (e : thenU p y = some r) : Bd n (m + 1) r := by
  unfold Q4.thenU at e
  split at e
  · split at e
    · rename_i a b ha hb
      cases e
      obtain ⟨la, _⟩ := List.getElem?_eq_some_iff.mp hb
      refine ⟨?_, fun t ht => ?_, by have := h.2.2; show y.2.d.dep ≤ _; omega⟩
      · show (y.1.take p.toNat ++ [Ty.n .th a b] ++ y.1.drop (p.toNat + 2)).length ≤ n
        rw [List.length_append, List.length_append, List.length_take, List.length_drop, List.length_singleton]
        have := h.1
        omega
      · have ht : t ∈ y.1.take p.toNat ++ [Ty.n .th a b] ++ y.1.drop (p.toNat + 2) := ht
        rcases List.mem_append.mp ht with q | q
        · rcases List.mem_append.mp q with q | q
          · have := h.2.1 t (List.mem_of_mem_take q); omega
          · rw [List.mem_singleton.mp q, dep_n]
            have q1 := h.2.1 a (List.mem_of_getElem? ha)
            have q2 := h.2.1 b (List.mem_of_getElem? hb)
            omega
        · have := h.2.1 t (List.mem_of_mem_drop q); omega
    · cases e
  · cases e
theorem Bd.usedAt {n n' m : Nat} {nm : Str} {p : Int} {x y r : Told} (h : Bd n m x) (h' : Bd n' m y) (e : usedAt nm p x y = some r) : Bd (n + n') (m + 1) r := by
  unfold Q4.usedAt at e
  split at e
  · split at e
    · cases e
    · rename_i k hk
      obtain ⟨lk, _⟩ := List.getElem?_eq_some_iff.mp hk
      have dk := h'.2.1 k (List.mem_of_getElem? hk)
      have l1 := h.1
      have l2 := h'.1
      have g2 := h'.2.2
      have gx := h.2.2
      have tk : ∀ t ∈ y.1.take p.toNat, t.d.dep ≤ m := fun t q => h'.2.1 t (List.mem_of_mem_take q)
      have dr : ∀ t ∈ y.1.drop (p.toNat + 1), t.d.dep ≤ m := fun t q => h'.2.1 t (List.mem_of_mem_drop q)
      split at e
      · cases e
        refine ⟨?_, fun t ht => ?_, by show y.2.d.dep ≤ _; omega⟩
        · show (y.1.take p.toNat ++ [Ty.n .ov k x.2] ++ x.1 ++ y.1.drop (p.toNat + 1)).length ≤ _
          simp only [List.length_append, List.length_take, List.length_drop, List.length_singleton]
          omega
        · have ht : t ∈ y.1.take p.toNat ++ [Ty.n .ov k x.2] ++ x.1 ++ y.1.drop (p.toNat + 1) := ht
          simp only [List.mem_append, List.mem_singleton] at ht
          rcases ht with ((q | q) | q) | q
          · have := tk t q; omega
          · rw [q, dep_n]; omega
          · have := h.2.1 t q; omega
          · have := dr t q; omega
      · split at e
        · cases e
          refine ⟨?_, fun t ht => ?_, by show y.2.d.dep ≤ _; omega⟩
          · show (y.1.take p.toNat ++ x.1 ++ [Ty.n .un x.2 k] ++ y.1.drop (p.toNat + 1)).length ≤ _
            simp only [List.length_append, List.length_take, List.length_drop, List.length_singleton]
            omega
          · have ht : t ∈ y.1.take p.toNat ++ x.1 ++ [Ty.n .un x.2 k] ++ y.1.drop (p.toNat + 1) := ht
            simp only [List.mem_append, List.mem_singleton] at ht
            rcases ht with ((q | q) | q) | q
            · have := tk t q; omega
            · have := h.2.1 t q; omega
            · rw [q, dep_n]; omega
            · have := dr t q; omega
        · split at e
          · cases e
            refine ⟨?_, fun t ht => ?_, by show y.2.d.dep ≤ _; omega⟩
            · show (y.1.take p.toNat ++ x.1 ++ y.1.drop (p.toNat + 1)).length ≤ _
              simp only [List.length_append, List.length_take, List.length_drop]
              omega
            · have ht : t ∈ y.1.take p.toNat ++ x.1 ++ y.1.drop (p.toNat + 1) := ht
              simp only [List.mem_append] at ht
              rcases ht with (q | q) | q
              · have := tk t q; omega
              · have := h.2.1 t q; omega
              · have := dr t q; omega
          · cases e
  · cases e
mutual
/-- a datum that is a type is that type's -/
theorem D.ty_d : ∀ {d : D} {t : Ty}, d.ty = some t → t.d = d
  | .s z, t, h => by
    simp only [D.ty] at h
    split at h
    · cases h; rfl
    · cases h
  | .i _, t, h => by simp only [D.ty] at h; cases h
  | .o, t, h => by simp only [D.ty] at h; cases h
  | .t l, t, h => by
    simp only [D.ty] at h
    obtain ⟨g, x, y, a, b, rfl, ⟨o, hr⟩, rfl⟩ := mkTy_inv h
    simp only [tyAll] at hr
    injection hr with _ hr
    injection hr with e1 hr
    injection hr with e2 _
    have q := tyAll_d [D.s g.str, x, y]
    have q1 := q 1 x a rfl e1
    have q2 := q 2 y b rfl e2
    simp only [Ty.d, q1, q2]
theorem tyAll_d : ∀ (ds : List D) (j : Nat) (d : D) (t : Ty), ds[j]? = some d → d.ty = some t → t.d = d
  | [], j, d, t, e, _ => by simp at e
  | a :: r, 0, d, t, e1, e2 => by
    obtain rfl := Option.some.inj (show some a = some d from e1)
    exact D.ty_d e2
  | a :: r, j + 1, d, t, e1, e2 => tyAll_d r j d t (by simpa using e1) e2
end
theorem Bd.le {n n' m m' : Nat} {r : Told} (h : Bd n m r) (a : n ≤ n') (b : m ≤ m') : Bd n' m' r := ⟨by have := h.1; omega, fun t ht => by have := h.2.1 t ht; omega, by have := h.2.2; omega⟩
theorem tl_bd : ∀ (n : Nat) (u : D) (r : Told), u.size ≤ n → u.tl = some r → Bd u.size u.dep r := by
  intro n
  induction n with
  | zero => intro u r h; have := u.size_pos; omega
  | succ n ih =>
    intro u r hz h
    cases tl_inv h with
    | @is x k hk =>
      have e := D.ty_d hk
      have l : k.d.dep ≤ (D.t [.s "is", x]).dep := by
        rw [e]
        simp only [D.dep, depAll]
        omega
      refine ⟨by show 1 ≤ _; exact D.size_pos _, fun t ht => ?_, l⟩
      rw [List.mem_singleton.mp (show t ∈ [k] from ht)]
      exact l
    | om h1 h2 =>
      simp only [D.size, sizeAll] at hz
      exact ((ih _ _ (by omega) h1).madeO h2).le (by simp only [D.size, sizeAll]; omega) (by simp only [D.dep, depAll]; omega)
    | um h1 h2 =>
      simp only [D.size, sizeAll] at hz
      exact ((ih _ _ (by omega) h1).madeU h2).le (by simp only [D.size, sizeAll]; omega) (by simp only [D.dep, depAll]; omega)
    | @tm x y _ _ h1 h2 =>
      simp only [D.size, sizeAll] at hz
      exact (((ih _ _ (by omega) h1).le (Nat.le_refl _) (Nat.le_max_left x.dep y.dep)).thenM ((ih _ _ (by omega) h2).le (Nat.le_refl _) (Nat.le_max_right x.dep y.dep))).le (by simp only [D.size, sizeAll]; omega) (by simp only [D.dep, depAll]; omega)
    | tu h1 h2 =>
      simp only [D.size, sizeAll] at hz
      exact ((ih _ _ (by omega) h1).thenU h2).le (by simp only [D.size, sizeAll]; omega) (by simp only [D.dep, depAll]; omega)
    | @us nm p x y _ _ _ c h1 h2 h3 =>
      simp only [D.size, sizeAll] at hz
      exact (((ih _ _ (by omega) h1).le (Nat.le_refl _) (Nat.le_max_left x.dep y.dep)).usedAt ((ih _ _ (by omega) h2).le (Nat.le_refl _) (Nat.le_max_right x.dep y.dep)) h3).le (by simp only [D.size, sizeAll]; omega) (by simp only [D.dep, depAll]; omega)
theorem Bd.small {n m : Nat} {r : Told} (h : Bd n m r) (a : n ≤ 40000) (b : m ≤ 60) : Small r := ⟨by have := h.1; omega, fun t ht => by have := h.2.1 t ht; omega, by have := h.2.2; omega⟩
theorem size_mem {p : D} : ∀ {l : List D}, p ∈ l → p.size ≤ sizeAll l
  | [], h => by cases h
  | d :: r, h => by
    simp only [sizeAll]
    rcases List.mem_cons.mp h with e | q
    · rw [e]; omega
    · have := size_mem q; omega
/-- the nodes are no greater and no deeper -/
theorem nodes_bd : ∀ (n : Nat) (u : D), u.size ≤ n → u.allK = true → ∀ x ∈ u.nodes, x.size ≤ u.size ∧ x.dep ≤ u.dep := by
  intro n
  induction n with
  | zero => intro u h; have := u.size_pos; omega
  | succ n ih =>
    intro u h ha x hx
    obtain ⟨f, hp⟩ := allK_fm ha
    obtain ⟨ps, _⟩ := f.psize
    rw [f.nodes] at hx
    rcases List.mem_cons.mp hx with e | hx
    · rw [e]; exact ⟨Nat.le_refl _, Nat.le_refl _⟩
    · have key : ∀ l : List D, sizeAll l ≤ n → (∀ p ∈ l, p.allK = true) → x ∈ nodesAll l → ∃ p ∈ l, x.size ≤ p.size ∧ x.dep ≤ p.dep := by
        intro l
        induction l with
        | nil => intro _ _ z; cases z
        | cons d r ihr =>
          intro hl hk z
          simp only [sizeAll] at hl
          rcases List.mem_append.mp z with z | z
          · exact ⟨d, List.mem_cons_self, ih d (by omega) (hk d List.mem_cons_self) x z⟩
          · obtain ⟨p, h1, h2⟩ := ihr (by omega) (fun p hp => hk p (List.mem_cons_of_mem _ hp)) z
            exact ⟨p, List.mem_cons_of_mem _ h1, h2⟩
      obtain ⟨p, h1, h2, h3⟩ := key u.parts.reverse (by rw [sizeAll_rev]; omega) (fun p hp' => hp p (List.mem_reverse.mp hp')) hx
      have hp1 := List.mem_reverse.mp h1
      have hd := parts_dep f (Nat.le_refl _) p hp1
      have hs : p.size ≤ sizeAll u.parts := size_mem hp1
      exact ⟨by omega, by omega⟩
end Q4

namespace Q4
open PySem PySem.Spec PyProof.Rows L2 LamX KT
open PySem.W (Frag)
inductive Run : List D → List D → List D → Prop
  | nil {S : List D} : Run S [] S
  | cons {S R S' : List D} {u : D} : Run (S ++ [u]) R S' → Run (S ++ u.parts) (u :: R) S'
theorem run_nodes : ∀ (n : Nat) (u : D), u.size ≤ n → u.allK = true → ∀ (S R S' : List D), Run (S ++ [u]) R S' → Run S (u.nodes.reverse ++ R) S' := by
  intro n
  induction n with
  | zero => intro u h; have := u.size_pos; omega
  | succ n ih =>
    intro u h ha S R S' hr
    obtain ⟨f, hp⟩ := allK_fm ha
    obtain ⟨ps, _⟩ := f.psize
    have key : ∀ (l : List D), sizeAll l ≤ n → (∀ p ∈ l, p.allK = true) → ∀ (S R S' : List D), Run (S ++ l) R S' → Run S ((nodesAll l.reverse).reverse ++ R) S' := by
      intro l
      induction l with
      | nil => intro _ _ S R S' q; simpa [nodesAll] using q
      | cons d r ihr =>
        intro hl hk S R S' q
        simp only [sizeAll] at hl
        have e : (nodesAll (d :: r).reverse).reverse ++ R = d.nodes.reverse ++ ((nodesAll r.reverse).reverse ++ R) := by
          rw [List.reverse_cons, nodesAll_app]
          simp [nodesAll]
        rw [e]
        refine ih d (by omega) (hk d List.mem_cons_self) _ _ _ (ihr (by omega) (fun p hp => hk p (List.mem_cons_of_mem _ hp)) _ _ _ ?_)
        rw [List.append_assoc]
        exact q
    have e : u.nodes.reverse ++ R = (nodesAll u.parts.reverse).reverse ++ (u :: R) := by rw [f.nodes]; simp
    rw [e]
    exact key u.parts (by omega) hp _ _ _ (.cons hr)
theorem Run.inv {S R S' : List D} {u : D} (h : Run S (u :: R) S') : ∃ S0, S = S0 ++ u.parts ∧ Run (S0 ++ [u]) R S' := by
  cases h with
  | cons h => exact ⟨_, rfl, h⟩
theorem Run.end_ {S S' : List D} (h : Run S [] S') : S = S' := by
  cases h
  rfl
/-- what a telling is told as -/
def Res (ok : Addr → Prop) (H : Hp) (v : V) : Option Told → Prop
  | none => v = .non
  | some r => ∃ p L us g, v = .ref p ∧ ok L ∧ H p = some (.tup [.ref L, g]) ∧ H L = some (.lst us) ∧ Tys H us r.1 ∧ TyAt H g r.2
theorem Res.mono {ok ok' : Addr → Prop} {H H' : Hp} {v : V} {o : Option Told} (h : Res ok H v o) (hk : ∀ L, ok L → ok' L) (hl : ∀ L us, ok L → H L = some (.lst us) → H' L = some (.lst us)) (tk : TK H H') : Res ok' H' v o := by
  cases o with
  | none => exact h
  | some r =>
    obtain ⟨p, L, us, g, e, h0, h1, h2, h3, h4⟩ := h
    exact ⟨p, L, us, g, e, hk L h0, tk _ _ h1, hl L us h0 h2, h3.mono tk, h4.mono tk⟩
theorem Res.same {ok ok' : Addr → Prop} {H H' : Hp} {v : V} {o : Option Told} (h : Res ok H v o) (hk : ∀ L, ok L → ok' L) (s : Same H H') : Res ok' H' v o := h.mono hk (fun L us _ e => s _ _ e) (TK.of_same s)
theorem paired_split {α β : Type} {F : α → β → Prop} {ts rs : List β} : ∀ {us : List α}, Paired F us (ts ++ rs) → Paired F (us.take ts.length) ts ∧ Paired F (us.drop ts.length) rs := by
  induction ts with
  | nil => intro us h; exact ⟨.nil, h⟩
  | cons t ts ih =>
    intro us h
    cases h with
    | cons h1 h2 =>
      obtain ⟨a, b⟩ := ih h2
      exact ⟨.cons h1 a, b⟩
section
variable {P : Program} {w : World} {K : Frag} {mg : Str → Option Value} {base : Heap}
def spNodeK : Sp := fun vs H Q _ => ∃ x u L us, vs = [x, .ref L] ∧ DAt H x u ∧ u.dep ≤ 60 ∧ Fm u ∧ H L = some (.lst us) ∧ Paired (Res (fun _ => True) H) us (u.parts.map D.tl) ∧ (∀ o ∈ u.parts.map D.tl, ∀ r, o = some r → Small r) ∧
  ∀ v' H', Same H H' → Res (fun L => H L = none) H' v' u.tl → Q v' H'
def spFIK (fp ft : Addr) : Sp := fun vs H Q _ => ∃ v d, vs = [v, .ref fp, .ref ft] ∧ DAt H v d ∧ d.allK = true ∧ d.size ≤ 40000 ∧ d.dep ≤ 60 ∧ (∀ u ∈ d.nodes, u.dep ≤ 60 ∧ ∀ r, u.tl = some r → Small r) ∧ ∀ v' H', Same H H' → Res (fun L => H L = none) H' v' d.tl → Q v' H'
end
end Q4

namespace Q4
open PySem PySem.Spec PyProof.Rows L2 LamX KT
open PySem.W (Frag)
theorem cutV_last (us : List V) : cutV us none (some (-1)) = us.dropLast := by
  unfold cutV HT.sIx
  rw [List.dropLast_eq_take]
  simp only [List.drop_zero]
  congr 1
  split <;> omega
theorem atI_last {us : List V} {a : V} (h : us.getLast? = some a) : atI us (-1) = some a := by
  unfold atI ixN
  have hne : us ≠ [] := by rintro rfl; cases h
  have hl : 0 < us.length := List.length_pos_iff.mpr hne
  rw [if_neg (by omega), if_pos (by omega)]
  show us[(us.length + -1 : Int).toNat]? = _
  rw [List.getLast?_eq_getElem?] at h
  rw [show ((us.length : Int) + -1).toNat = us.length - 1 by omega]
  exact h
theorem tys_last {H : Hp} {us : List V} {ts : List Ty} (h : Tys H us ts) (hl : 0 < ts.length) : ∃ a, us.getLast? = some a ∧ TyAt H a (ts.getLastD (.w "")) := by
  induction h with
  | nil => simp at hl
  | @cons v t vs ts h r ih =>
    cases r with
    | nil => exact ⟨v, rfl, h⟩
    | cons h' r' =>
      obtain ⟨a, e1, e2⟩ := ih (by simp)
      exact ⟨a, by rw [List.getLast?_cons_cons]; exact e1, by simpa using e2⟩
theorem Tys.dropLast {H : Hp} {us : List V} {ts : List Ty} (h : Tys H us ts) : Tys H us.dropLast ts.dropLast := by
  induction h with
  | nil => exact .nil
  | @cons v t vs ts h r ih =>
    cases r with
    | nil => exact .nil
    | cons h' r' => exact .cons h ih
theorem Tys.drop {H : Hp} {us : List V} {ts : List Ty} (h : Tys H us ts) : ∀ n, Tys H (us.drop n) (ts.drop n) := by
  intro n
  induction n generalizing us ts with
  | zero => exact h
  | succ n ih =>
    cases h with
    | nil => exact .nil
    | cons a r => exact ih r
theorem Tys.take {H : Hp} {us : List V} {ts : List Ty} (h : Tys H us ts) : ∀ n, Tys H (us.take n) (ts.take n) := by
  intro n
  induction n generalizing us ts with
  | zero => exact .nil
  | succ n ih =>
    cases h with
    | nil => exact .nil
    | cons a r => exact .cons a (ih r)
theorem Tys.get {H : Hp} {us : List V} {ts : List Ty} (h : Tys H us ts) : ∀ {j : Nat} {t : Ty}, ts[j]? = some t → ∃ v, us[j]? = some v ∧ TyAt H v t := by
  induction h with
  | nil => intro j t e; simp at e
  | cons h _ ih =>
    intro j t e
    cases j with
    | zero =>
      obtain rfl := Option.some.inj (show some _ = some t from e)
      exact ⟨_, rfl, h⟩
    | succ j => exact ih (by simpa using e)
section
variable {P : Program} {w : World} {K : Frag} {mg : Str → Option Value} {base : Heap}
/-- of a knot of that name, whose parts all tell something -/
def spTeller (nm : Str) : Sp := fun vs H Q _ => ∃ x r L us rs, vs = [x, .ref L] ∧ DAt H x (.t (.s nm :: r)) ∧ Fm (.t (.s nm :: r)) ∧ H L = some (.lst us) ∧ Paired (fun v r => Res (fun _ => True) H v (some r)) us rs ∧ (D.t (.s nm :: r)).parts.map D.tl = rs.map some ∧ (∀ r ∈ rs, Small r) ∧
  ∀ v' H', Same H H' → Res (fun L => H L = none) H' v' (D.t (.s nm :: r)).tl → Q v' H'
theorem cutV_take (us : List V) (n : Nat) : cutV us none (some (n : Int)) = us.take n := by
  unfold cutV
  rw [HT.sIx_nat]
  have e : HT.sIx us.length 0 none = 0 := rfl
  rw [e, List.drop_zero, Nat.sub_zero]
  by_cases h : n ≤ us.length
  · rw [Nat.min_eq_left h]
  · rw [Nat.min_eq_right (by omega), List.take_of_length_le (Nat.le_refl _), List.take_of_length_le (by omega)]
theorem fm_um {r : List D} (f : Fm (.t (.s "under made" :: r))) : ∃ d, r = [d] := by
  generalize hu : D.t (.s "under made" :: r) = u at f
  cases f with
  | um => injection hu with hu; injection hu with _ hu; exact ⟨_, hu⟩
  | _ => exact absurd hu (by simp)
theorem fm_tm {r : List D} (f : Fm (.t (.s "then made" :: r))) : ∃ x y, r = [x, y] := by
  generalize hu : D.t (.s "then made" :: r) = u at f
  cases f with
  | tm => injection hu with hu; injection hu with _ hu; exact ⟨_, _, hu⟩
  | _ => exact absurd hu (by simp)
theorem fm_tu {r : List D} (f : Fm (.t (.s "then used" :: r))) : ∃ (n : Nat) (y : D), r = [.i n, y] := by
  generalize hu : D.t (.s "then used" :: r) = u at f
  cases f with
  | @tu p y h => injection hu with hu; injection hu with _ hu; exact ⟨p.toNat, y, by rw [hu, Int.toNat_of_nonneg h]⟩
  | _ => exact absurd hu (by simp)
theorem fm_ou {r : List D} (f : Fm (.t (.s "over used" :: r))) : ∃ (n : Nat) (x y : D), r = [.i n, x, y] := by
  generalize hu : D.t (.s "over used" :: r) = u at f
  cases f with
  | @ou p x y h => injection hu with hu; injection hu with _ hu; exact ⟨p.toNat, x, y, by rw [hu, Int.toNat_of_nonneg h]⟩
  | _ => exact absurd hu (by simp)
theorem fm_uu {r : List D} (f : Fm (.t (.s "under used" :: r))) : ∃ (n : Nat) (x y : D), r = [.i n, x, y] := by
  generalize hu : D.t (.s "under used" :: r) = u at f
  cases f with
  | @uu p x y h => injection hu with hu; injection hu with _ hu; exact ⟨p.toNat, x, y, by rw [hu, Int.toNat_of_nonneg h]⟩
  | _ => exact absurd hu (by simp)
theorem fm_ct {r : List D} (f : Fm (.t (.s "cut" :: r))) : ∃ (n : Nat) (x y : D), r = [.i n, x, y] := by
  generalize hu : D.t (.s "cut" :: r) = u at f
  cases f with
  | @ct p x y h => injection hu with hu; injection hu with _ hu; exact ⟨p.toNat, x, y, by rw [hu, Int.toNat_of_nonneg h]⟩
  | _ => exact absurd hu (by simp)
end
end Q4

namespace Q4
open PySem PySem.Spec PyProof.Rows L2 LamX KT
open PySem.W (Frag)
section
variable {P : Program} {w : World} {K : Frag} {mg : Str → Option Value} {base : Heap}
end
end Q4

namespace Q4
open PySem PySem.Spec PyProof.Rows L2 LamX KT
open PySem.W (Frag)
theorem hu64 {A : Around} {k : Nat} (hr : Room k A) : A.units + 64 < cLine := by have := hr.un; omega
theorem sg_inj : ∀ a b : Sg, PyData.eqv (.str a.str) (.str b.str) = decide (a = b) := by
  intro a b
  cases a <;> cases b <;> decide +kernel
theorem eqv_ty : ∀ a b : Ty, PyData.eqv a.d.py b.d.py = decide (a = b) := by
  intro a
  induction a with
  | w z =>
    intro b
    cases b with
    | w y =>
      simp only [Ty.d, D.py, PyData.eqv, Ty.w.injEq]
      rw [Bool.eq_iff_iff, beq_iff_eq, decide_eq_true_eq]
    | n g x y => simp [Ty.d, D.py, PyData.eqv]
  | n g x y i j =>
    intro b
    cases b with
    | w z => simp [Ty.d, D.py, PyData.eqv]
    | n h x' y' =>
      have e : PyData.eqv (Ty.n g x y).d.py (Ty.n h x' y').d.py = (PyData.eqv (.str g.str) (.str h.str) && (PyData.eqv x.d.py x'.d.py && (PyData.eqv y.d.py y'.d.py && true))) := by
        simp only [Ty.d, D.py, pyAll, PyData.eqv, PyData.eqvAll]
      rw [e, sg_inj, i, j]
      simp only [Ty.n.injEq, Bool.and_true]
      by_cases h1 : g = h <;> by_cases h2 : x = x' <;> by_cases h3 : y = y' <;> simp [h1, h2, h3]
section
variable {P : Program} {w : World} {K : Frag} {mg : Str → Option Value} {base : Heap}
end
end Q4

namespace Q4
open PySem PySem.Spec PyProof.Rows L2 LamX KT
open PySem.W (Frag)
/-- a telling as data -/
def tpy : Option Told → PyData
  | none => .none
  | some r => .tuple [.list (r.1.map fun t => t.d.py), r.2.d.py]
theorem depAll_py (l : List PyData) (n : Nat) (h : ∀ x ∈ l, x.depth ≤ n) : PyData.depthAll l ≤ n := by
  induction l with
  | nil => simp [PyData.depthAll]
  | cons a r ih =>
    simp only [PyData.depthAll]
    have := h a List.mem_cons_self
    have := ih fun x hx => h x (List.mem_cons_of_mem _ hx)
    omega
theorem canAll_py (l : List PyData) (h : ∀ x ∈ l, x.canLay0 = true) : PyData.canLayAll0 l = true := by
  induction l with
  | nil => simp [PyData.canLayAll0]
  | cons a r ih =>
    simp only [PyData.canLayAll0]
    rw [h a List.mem_cons_self, ih fun x hx => h x (List.mem_cons_of_mem _ hx)]
    rfl
theorem tys_dp {K : Frag} {H : Hp} {us : List V} {ts : List Ty} (h : Tys H us ts) : DpAll K H us (ts.map fun t => t.d.py) ∧ ∀ x ∈ ts.map (fun t => t.d.py), x.canLay0 = true := by
  induction h with
  | nil => exact ⟨.nil, fun x hx => by cases hx⟩
  | cons h _ ih =>
    obtain ⟨h1, h2, _⟩ := DAt.py (K := K) h.d
    refine ⟨.cons h1 ih.1, fun x hx => ?_⟩
    rcases List.mem_cons.mp hx with e | hx
    · rw [e]; exact h2
    · exact ih.2 x hx
theorem dep_py (t : Ty) : t.d.py.depth = t.d.dep := by
  induction t with
  | w z => simp [Ty.d, D.py, PyData.depth, D.dep]
  | n g a b i j => simp [Ty.d, D.py, pyAll, PyData.depth, PyData.depthAll, D.dep, depAll, i, j]
theorem Res.dp {K : Frag} {ok : Addr → Prop} {H : Hp} {v : V} {o : Option Told} (h : Res ok H v o) (hs : ∀ r, o = some r → Small r) : Dp K H v (tpy o) ∧ (tpy o).canLay0 = true ∧ (tpy o).depth ≤ 62 := by
  cases o with
  | none =>
    obtain rfl : v = .non := h
    exact ⟨.non, by simp [tpy, PyData.canLay0], by simp [tpy, PyData.depth]⟩
  | some r =>
    obtain ⟨p, L, us, g, rfl, _, ep, eL, hT, hg⟩ := h
    obtain ⟨s1, s2, s3⟩ := hs r rfl
    obtain ⟨a1, a2⟩ := tys_dp (K := K) hT
    obtain ⟨b1, b2, _⟩ := DAt.py (K := K) hg.d
    refine ⟨.tup (SqT.of ep) (.cons (.lst (SqL.of eL) a1) (.cons b1 .nil)), ?_, ?_⟩
    · simp only [tpy, PyData.canLay0, PyData.canLayAll0, canAll_py _ a2, b2, Bool.and_self]
    · have q := depAll_py (r.1.map fun t => t.d.py) 60 fun x hx => by
        obtain ⟨t, ht, rfl⟩ := List.mem_map.mp hx
        rw [dep_py]
        exact s2 t ht
      have q2 : r.2.d.py.depth ≤ 60 := by rw [dep_py]; exact s3
      simp only [tpy, PyData.depth, PyData.depthAll]
      omega
theorem ress_dp {K : Frag} {ok : Addr → Prop} {H : Hp} {us : List V} {os : List (Option Told)} (h : Paired (Res ok H) us os) (hs : ∀ o ∈ os, ∀ r, o = some r → Small r) : DpAll K H us (os.map tpy) ∧ (∀ x ∈ os.map tpy, x.canLay0 = true) ∧ ∀ x ∈ os.map tpy, x.depth ≤ 62 := by
  induction h with
  | nil => exact ⟨.nil, (fun x hx => by cases hx), (fun x hx => by cases hx)⟩
  | cons h _ ih =>
    obtain ⟨a1, a2, a3⟩ := Res.dp (K := K) h (hs _ List.mem_cons_self)
    obtain ⟨b1, b2, b3⟩ := ih fun o ho => hs o (List.mem_cons_of_mem _ ho)
    refine ⟨.cons a1 b1, fun x hx => ?_, fun x hx => ?_⟩
    · rcases List.mem_cons.mp hx with e | hx
      · rw [e]; exact a2
      · exact b2 x hx
    · rcases List.mem_cons.mp hx with e | hx
      · rw [e]; exact a3
      · exact b3 x hx
theorem none_in (os : List (Option Told)) : ((os.map tpy).any fun z => PyData.eqv z .none) = os.any Option.isNone := by
  rw [List.any_map]
  congr 1
  funext o
  cases o with
  | none => simp [tpy, PyData.eqv]
  | some r => simp [tpy, PyData.eqv]
/-- the parts of what tells something tell something -/
theorem tl_parts {u : D} {r : Told} (h : u.tl = some r) : ∀ p ∈ u.parts, p.tl.isSome = true := by
  cases tl_inv h with
  | is hk => intro p hp; simp [D.parts] at hp
  | om h1 h2 => intro p hp; simp [D.parts] at hp; rw [hp, h1]; rfl
  | um h1 h2 => intro p hp; simp [D.parts] at hp; rw [hp, h1]; rfl
  | tm h1 h2 =>
    intro p hp
    simp [D.parts] at hp
    rcases hp with e | e
    · rw [e, h1]; rfl
    · rw [e, h2]; rfl
  | tu h1 h2 => intro p hp; simp [D.parts] at hp; rw [hp, h1]; rfl
  | us c h1 h2 h3 =>
    intro p hp
    simp [D.parts] at hp
    rcases hp with e | e
    · rw [e, h1]; rfl
    · rw [e, h2]; rfl
theorem all_some {ok : Addr → Prop} {H : Hp} {us : List V} {os : List (Option Told)} (h : Paired (Res ok H) us os) (ha : os.any Option.isNone = false) : ∃ rs : List Told, os = rs.map some ∧ Paired (fun v r => Res ok H v (some r)) us rs := by
  induction h with
  | nil => exact ⟨[], rfl, .nil⟩
  | @cons v o us os h _ ih =>
    rw [List.any_cons, Bool.or_eq_false_iff] at ha
    obtain ⟨rs, e, hp⟩ := ih ha.2
    cases o with
    | none => cases ha.1
    | some r => exact ⟨r :: rs, by rw [e]; rfl, .cons h hp⟩
/-- the tellers by name -/
structure Gt5 (K : Frag) (w : World) (mg : Str → Option Value) (f1 f2 f3 f4 f5 f6 f7 f8 : Addr) : Prop where
  ex : ∃ dt, mg "_TELLERS" = some (.ref dt) ∧ KDct K w dt "is" (.ref f1) ∧ KDct K w dt "over made" (.ref f2) ∧ KDct K w dt "under made" (.ref f3) ∧ KDct K w dt "then made" (.ref f4) ∧ KDct K w dt "over used" (.ref f5) ∧ KDct K w dt "under used" (.ref f6) ∧ KDct K w dt "then used" (.ref f7) ∧ KDct K w dt "cut" (.ref f8)
section
variable {P : Program} {w : World} {K : Frag} {mg : Str → Option Value} {base : Heap}
end
end Q4

namespace Q4
open PySem PySem.Spec PyProof.Rows L2 KT
open PySem.W (Frag)
/-- a number, a truth value, a text -/
inductive Scl : V → Prop
  | i (n : Int) : Scl (.int n)
  | b (x : Bool) : Scl (.bl x)
  | s (z : Str) : Scl (.str z)
  | o : Scl .non
/-- equal data, to the depth k -/
def SameDt (H : Hp) : Nat → V → V → Prop
  | 0, v, v' => v' = v ∧ Scl v
  | k + 1, v, v' => (v' = v ∧ Scl v) ∨ ∃ a a' xs ys, v = .ref a ∧ v' = .ref a' ∧ ((H a = some (.lst xs) ∧ H a' = some (.lst ys)) ∨ (H a = some (.tup xs) ∧ H a' = some (.tup ys))) ∧ xs.length = ys.length ∧ xs.length ≤ 1000000 ∧
    ∀ (i : Nat) (x y : V), xs[i]? = some x → ys[i]? = some y → SameDt H k x y
theorem SameDt.mono {H H' : Hp} (s : Same H H') : ∀ {k : Nat} {v v' : V}, SameDt H k v v' → SameDt H' k v v'
  | 0, _, _, h => h
  | k + 1, _, _, h => by
    rcases h with h | ⟨a, a', xs, ys, e1, e2, h, hl, hm, hx⟩
    · exact .inl h
    · exact .inr ⟨a, a', xs, ys, e1, e2, h.imp (fun q => ⟨s _ _ q.1, s _ _ q.2⟩) fun q => ⟨s _ _ q.1, s _ _ q.2⟩, hl, hm, fun i x y h1 h2 => (hx i x y h1 h2).mono s⟩
theorem SameDt.up {H : Hp} : ∀ {k : Nat} {v v' : V}, SameDt H k v v' → SameDt H (k + 1) v v'
  | 0, _, _, h => .inl h
  | k + 1, _, _, h => by
    rcases h with h | ⟨a, a', xs, ys, e1, e2, h, hl, hm, hx⟩
    · exact .inl h
    · exact .inr ⟨a, a', xs, ys, e1, e2, h, hl, hm, fun i x y h1 h2 => (hx i x y h1 h2).up⟩
theorem SameDt.le {H : Hp} {k j : Nat} {v v' : V} (h : SameDt H k v v') (l : k ≤ j) : SameDt H j v v' := by
  induction j with
  | zero => obtain rfl : k = 0 := by omega
            exact h
  | succ j ih =>
    by_cases e : k = j + 1
    · rw [← e]; exact h
    · exact (ih (by omega)).up
theorem SameDt.scl {H : Hp} {k : Nat} {v : V} (h : Scl v) : SameDt H k v v := by
  cases k
  · exact ⟨rfl, h⟩
  · exact .inl ⟨rfl, h⟩
theorem SameDt.ty {H : Hp} {v v' : V} {t : Ty} (h : TyAt H v t) : TyAt H v' t → SameDt H t.signs v v' := by
  induction h generalizing v' with
  | w h =>
    intro h'
    cases h'
    exact ⟨rfl, .s _⟩
  | @n p g x y a b e h1 h2 i j =>
    intro h'
    cases h' with
    | @n p' _ x' y' _ _ e' k1 k2 =>
      have q : SameDt H (a.signs + b.signs + 1) (.ref p) (.ref p') := by
        refine .inr ⟨p, p', _, _, rfl, rfl, .inr ⟨e, e'⟩, rfl, by show 3 ≤ 1000000; omega, fun i' u u' h3 h4 => ?_⟩
        match i', h3, h4 with
        | 0, h3, h4 =>
          obtain rfl := Option.some.inj h3
          obtain rfl := Option.some.inj h4
          exact .scl (.s _)
        | 1, h3, h4 =>
          obtain rfl := Option.some.inj h3
          obtain rfl := Option.some.inj h4
          exact (i k1).le (by omega)
        | 2, h3, h4 =>
          obtain rfl := Option.some.inj h3
          obtain rfl := Option.some.inj h4
          exact (j k2).le (by omega)
        | n + 3, h3, h4 => exact absurd h3 (by simp)
      exact q.le (by simp only [Ty.signs]; omega)
theorem walk_zipT {K : Frag} {a b : Addr} {xs ys : List V} {n : Nat} (hn : n = min xs.length ys.length) : Walk (RZ.ItzT K a b) n (fun H => SqT K H a xs ∧ SqT K H b ys) (YPair (fun i => xs[i]?) (fun i => ys[i]?)) := by
  subst hn
  refine ⟨fun i _ hi q => ?_, fun _ q => ⟨xs, ys, q.1, q.2, by omega⟩, fun i H v H' _ q y => ?_⟩
  · have h1 : i < xs.length := by omega
    have h2 : i < ys.length := by omega
    exact ⟨xs, ys, xs[i], ys[i], q.1, q.2, by simp [h1], by simp [h2]⟩
  · obtain ⟨T, x, z, h1, h2, h3, h4, h5⟩ := y
    exact ⟨T, x, z, h1, h2, h3, h4 xs q.1, h5 ys q.2⟩
theorem pe_never {X : Cx} {e : Expr} : PE X e (fun _ _ _ => False) := ⟨fun _ _ _ _ _ _ h => h.elim⟩
section
variable {P : Program} {w : World} {K : Frag} {mg : Str → Option Value} {base : Heap}
def spExact (d : Nat) : Sp := fun vs H Q _ => ∃ v v', vs = [v, v'] ∧ SameDt H d v v' ∧ ∀ H', Same H H' → Q (.bl true) H'
theorem scl_ty {v : V} (h : Scl v) : ∃ (c : String) (bi bb : Bool), (∀ H, TyX K H v (.type c)) ∧ PySem.W.kitAny K (.type c) [.type "list", .type "tuple"] = some false ∧ PySem.W.kitOne K (.type c) (.type "dict") = some false ∧
    PySem.W.kitOne K (.type c) (.type "int") = some bi ∧ PySem.W.kitOne K (.type c) (.type "bool") = some bb ∧ scal v v = true := by
  have f2 : ∀ c : String, kitB c "list" = some false → kitB c "tuple" = some false → PySem.W.kitAny K (.type c) [.type "list", .type "tuple"] = some false := by
    intro c h1 h2
    exact kitAny_cons (kit_ty h1) (fun _ => kitAny_cons (kit_ty h2) (fun _ => kitAny_nil) (fun z => by cases z)) (fun z => by cases z)
  cases h with
  | i n => exact ⟨"int", true, false, fun _ => .base (.int n), f2 _ (by decide +kernel) (by decide +kernel), kit_ty (by decide +kernel), kit_ty (by decide +kernel), kit_ty (by decide +kernel), rfl⟩
  | b x => exact ⟨"bool", true, true, fun _ => .base (.bl x), f2 _ (by decide +kernel) (by decide +kernel), kit_ty (by decide +kernel), kit_ty (by decide +kernel), kit_ty (by decide +kernel), rfl⟩
  | o => exact ⟨"NoneType", false, false, fun _ => .base .non, f2 _ (by decide +kernel) (by decide +kernel), kit_ty (by decide +kernel), kit_ty (by decide +kernel), kit_ty (by decide +kernel), rfl⟩
  | s z => exact ⟨"str", false, false, fun _ => .base (.str z), f2 _ (by decide +kernel) (by decide +kernel), kit_ty (by decide +kernel), kit_ty (by decide +kernel), kit_ty (by decide +kernel), rfl⟩
theorem ok_exact {f : Addr} {fd : FuncData} (T : Top K mg "_law_exact" sLExact pLExact f fd) (B : Blt mg) : ∀ d : Nat, d ≤ 60 → FnOk P w K mg base CX0 (1 + d) f fd pLExact (spExact d)
  | 0, _ => by
    refine T.F.ok scLExact (fun vs H Q E h => ?_) (fun cdv A outer s H vs Q E hr h => ?_)
    · obtain ⟨_, _, rfl, _⟩ := h
      rfl
    · obtain ⟨v, v', rfl, ⟨rfl, hs⟩, k⟩ := h
      refine ⟨_, (pss_cons (ps_if (pt_val (pe_callB call_isiT (by rfl) B.isi (by decide +kernel) (pa_cons (pv 0) (pa_cons (pe_tup (pa_cons (pe_bltn (v := .ty "list") (by rfl) B.list (by decide +kernel) rfl) (pa_cons (pe_bltn (v := .ty "tuple") (by rfl) B.tuple (by decide +kernel) rfl) pa_nil))) pa_nil)))) pss_never pss_nil)
      (pss_cons (ps_if (pt_val (pe_callB call_isi (by rfl) B.isi (by decide +kernel) (pa_cons (pv 0) (pa_cons (pe_bltn (v := .ty "dict") (by rfl) B.dict (by decide +kernel) rfl) pa_nil)))) pss_never pss_nil)
      (pss_cons (ps_set (i := 2) scLExact.nd rfl (Or.inl rfl) (pe_cmpR op_eq (pe_callB call_isi (by rfl) B.isi (by decide +kernel) (pa_cons (pv 0) (pa_cons (pe_bltn (v := .ty "int") (by rfl) B.int (by decide +kernel) rfl) pa_nil))) (pe_callB call_isi (by rfl) B.isi (by decide +kernel) (pa_cons (pv 1) (pa_cons (pe_bltn (v := .ty "int") (by rfl) B.int (by decide +kernel) rfl) pa_nil))) (nomark _)))
      (pss_one (ps_ret (pe_and (pv 2) (pe_and (pe_cmpR op_eq (pe_callB call_isi (by rfl) B.isi (by decide +kernel) (pa_cons (pv 0) (pa_cons (pe_bltn (v := .ty "bool") (by rfl) B.bool_ (by decide +kernel) rfl) pa_nil))) (pe_callB call_isi (by rfl) B.isi (by decide +kernel) (pa_cons (pv 1) (pa_cons (pe_bltn (v := .ty "bool") (by rfl) B.bool_ (by decide +kernel) rfl) pa_nil))) (nomark _)) (pe_one (pe_cmpR op_eq (pv 0) (pv 1) (nomark _)))))))))), ?_⟩
      obtain ⟨c, bi, bb, ty, k1, k2, k3, k4, sc⟩ := scl_ty (K := K) hs
      refine ⟨v', rfl, by show 2 ≤ sizeLine; rw [sizeLine_eq]; omega, fun p hp => ⟨v', p, _, _, _, false, rfl, upd_same, .cons (.ty "list") (.cons (.ty "tuple") .nil), ty _, k1, false, rfl, iteF ?_⟩⟩
      refine ⟨_, rfl, _, _, _, _, false, rfl, .ty "dict", ty _, k2, false, rfl, iteF ?_⟩
      refine ⟨_, rfl, _, _, _, _, bi, rfl, .ty "int", ty _, k3, _, rfl, _, _, _, _, bi, rfl, .ty "int", ty _, k3, rfl, ?_⟩
      refine ⟨_, rfl, true, congrArg V.bl (decide_eq_true rfl), ?_⟩
      refine ⟨_, rfl, _, _, _, _, bb, rfl, .ty "bool", ty _, k4, _, rfl, _, _, _, _, bb, rfl, .ty "bool", ty _, k4, rfl, true, congrArg V.bl (decide_eq_true rfl), ?_⟩
      refine ⟨_, rfl, _, rfl, sc, ?_⟩
      have e : decide (v' = v') = true := decide_eq_true rfl
      rw [e]
      exact k _ (same_upd hp)
  | d + 1, hd => by
    have GE : FnOk P w K mg base CX0 (1 + d) f fd pLExact (spExact d) := ok_exact T B d (by omega)
    refine T.F.ok (k := 1 + d) scLExact (fun vs H Q E h => ?_) (fun cdv A outer s H vs Q E hr h => ?_)
    · obtain ⟨_, _, rfl, _⟩ := h
      rfl
    · obtain ⟨v, v', rfl, hd', k⟩ := h
      refine ⟨_, (pss_cons (ps_if (pt_val (pe_callB call_isiT (by rfl) B.isi (by decide +kernel) (pa_cons (pv 0) (pa_cons (pe_tup (pa_cons (pe_bltn (v := .ty "list") (by rfl) B.list (by decide +kernel) rfl) (pa_cons (pe_bltn (v := .ty "tuple") (by rfl) B.tuple (by decide +kernel) rfl) pa_nil))) pa_nil)))) (pss_cons (ps_set (i := 2) scLExact.nd rfl (Or.inl rfl) (pe_and (pe_cmpR op_eq (pe_callB call_isi (by rfl) B.isi (by decide +kernel) (pa_cons (pv 1) (pa_cons (pe_bltn (v := .ty "list") (by rfl) B.list (by decide +kernel) rfl) pa_nil))) (pe_callB call_isi (by rfl) B.isi (by decide +kernel) (pa_cons (pv 0) (pa_cons (pe_bltn (v := .ty "list") (by rfl) B.list (by decide +kernel) rfl) pa_nil))) (nomark _)) (pe_one (pe_cmpR op_eq (pe_callB call_isi (by rfl) B.isi (by decide +kernel) (pa_cons (pv 1) (pa_cons (pe_bltn (v := .ty "tuple") (by rfl) B.tuple (by decide +kernel) rfl) pa_nil))) (pe_callB call_isi (by rfl) B.isi (by decide +kernel) (pa_cons (pv 0) (pa_cons (pe_bltn (v := .ty "tuple") (by rfl) B.tuple (by decide +kernel) rfl) pa_nil))) (nomark _)))))
      (pss_one (ps_ret (pe_and (pv 2) (pe_and (pe_cmpR op_eq (pe_callB call_len_seq (by rfl) B.len PySem.boot_len (pa_cons (pv 0) pa_nil)) (pe_callB call_len_seq (by rfl) B.len PySem.boot_len (pa_cons (pv 1) pa_nil)) (nomark _)) (pe_one (pe_callB (cr_all rfl) (by rfl) B.all (by decide +kernel) (pa_cons (pe_lc (own := [("a", 3), ("b", 4)]) (g := gTup K 2 (gCons (gName 3) (gCons (gName 4) gNil))) (tt := tYes) rfl scLExact.nd (RZ.pi_zipA (by rfl) B.zip (pa_cons (pv 0) (pa_cons (pv 1) pa_nil))) (blkOk_by (N := nLExact) (sc := defScope sLExact) (by decide +kernel)) (fun _ _ _ _ _ => pg_tup (by rfl) (pgs_cons (pg_name (i := 3) scLExact.nd rfl (Or.inl rfl)) (pgs_cons (pg_name (i := 4) scLExact.nd rfl (Or.inl rfl)) pgs_nil))) (fun _ _ _ _ _ => pts_nil)
            (fun _ _ _ _ _ => (pe_call GE hr rfl T.g T.F.kp T.b .nil pass0 (pa_cons (pv 3) (pa_cons (pv 4) pa_nil))))) pa_nil)))))))) pss_nil)
      (pss_cons (ps_if (pt_val (pe_callB call_isi (by rfl) B.isi (by decide +kernel) (pa_cons (pv 0) (pa_cons (pe_bltn (v := .ty "dict") (by rfl) B.dict (by decide +kernel) rfl) pa_nil)))) pss_never pss_nil)
      (pss_cons (ps_set (i := 2) scLExact.nd rfl (Or.inl rfl) (pe_cmpR op_eq (pe_callB call_isi (by rfl) B.isi (by decide +kernel) (pa_cons (pv 0) (pa_cons (pe_bltn (v := .ty "int") (by rfl) B.int (by decide +kernel) rfl) pa_nil))) (pe_callB call_isi (by rfl) B.isi (by decide +kernel) (pa_cons (pv 1) (pa_cons (pe_bltn (v := .ty "int") (by rfl) B.int (by decide +kernel) rfl) pa_nil))) (nomark _)))
      (pss_one (ps_ret (pe_and (pv 2) (pe_and (pe_cmpR op_eq (pe_callB call_isi (by rfl) B.isi (by decide +kernel) (pa_cons (pv 0) (pa_cons (pe_bltn (v := .ty "bool") (by rfl) B.bool_ (by decide +kernel) rfl) pa_nil))) (pe_callB call_isi (by rfl) B.isi (by decide +kernel) (pa_cons (pv 1) (pa_cons (pe_bltn (v := .ty "bool") (by rfl) B.bool_ (by decide +kernel) rfl) pa_nil))) (nomark _)) (pe_one (pe_cmpR op_eq (pv 0) (pv 1) (nomark _)))))))))), ?_⟩
      rcases hd' with ⟨rfl, hs⟩ | ⟨a, a', xs, ys, rfl, rfl, hk, hl, hm, hx⟩
      · obtain ⟨c, bi, bb, ty, k1, k2, k3, k4, sc⟩ := scl_ty (K := K) hs
        refine ⟨v', rfl, by show 2 ≤ sizeLine; rw [sizeLine_eq]; omega, fun p hp => ⟨v', p, _, _, _, false, rfl, upd_same, .cons (.ty "list") (.cons (.ty "tuple") .nil), ty _, k1, false, rfl, iteF ?_⟩⟩
        refine ⟨_, rfl, _, _, _, _, false, rfl, .ty "dict", ty _, k2, false, rfl, iteF ?_⟩
        refine ⟨_, rfl, _, _, _, _, bi, rfl, .ty "int", ty _, k3, _, rfl, _, _, _, _, bi, rfl, .ty "int", ty _, k3, rfl, ?_⟩
        refine ⟨_, rfl, true, congrArg V.bl (decide_eq_true rfl), ?_⟩
        refine ⟨_, rfl, _, _, _, _, bb, rfl, .ty "bool", ty _, k4, _, rfl, _, _, _, _, bb, rfl, .ty "bool", ty _, k4, rfl, true, congrArg V.bl (decide_eq_true rfl), ?_⟩
        refine ⟨_, rfl, _, rfl, sc, ?_⟩
        have e : decide (v' = v') = true := decide_eq_true rfl
        rw [e]
        exact k _ (same_upd hp)

      · rcases hk with ⟨h1, h2⟩ | ⟨h1, h2⟩
        · have tyA : ∀ p, H p = none → ∀ b zs, H b = some (.lst zs) → TyX K (upd H p (.tup [.ty "list", .ty "tuple"])) (.ref b) (.type "list") := fun p hp b zs e => .base (.lst (show upd H p _ b = _ by rw [upd_ne (ne_of_none e hp)]; exact e))
          refine ⟨.ref a, rfl, by show 2 ≤ sizeLine; rw [sizeLine_eq]; omega, fun p hp => ⟨.ref a, p, _, _, _, true, rfl, upd_same, .cons (.ty "list") (.cons (.ty "tuple") .nil), tyA p hp a xs h1, kitAny_cons (b := true) (kit_ty (by decide +kernel)) (fun z => by cases z) (fun _ => rfl), true, rfl, iteT ?_⟩⟩
          have s1 : Same H (upd H p (.tup [.ty "list", .ty "tuple"])) := same_upd hp
          refine ⟨_, rfl, _, _, _, _, true, rfl, .ty "list", tyA p hp a' ys h2, kit_ty (by decide +kernel), _, rfl, _, _, _, _, true, rfl, .ty "list", tyA p hp a xs h1, kit_ty (by decide +kernel), rfl, true, congrArg V.bl (decide_eq_true rfl), ?_⟩
          refine ⟨_, rfl, _, _, _, _, false, rfl, .ty "tuple", tyA p hp a' ys h2, kit_ty (by decide +kernel), _, rfl, _, _, _, _, false, rfl, .ty "tuple", tyA p hp a xs h1, kit_ty (by decide +kernel), rfl, ?_⟩
          refine ⟨_, rfl, true, congrArg V.bl (decide_eq_true rfl), ?_⟩
          refine ⟨_, rfl, a, xs, rfl, .inl (SqL.of (s1 _ _ h1)), _, rfl, a', ys, rfl, .inl (SqL.of (s1 _ _ h2)), rfl, true, congrArg V.bl (decide_eq_true (by rw [hl])), ?_⟩
          refine ⟨_, rfl, _, rfl, a, a', xs, ys, rfl, .inl ⟨SqL.of (s1 _ _ h1), SqL.of (s1 _ _ h2), fun D hD => ?_⟩⟩
          have sD : Same H (upd (upd H p (.tup [.ty "list", .ty "tuple"])) D (.lst [])) := s1.trans (same_upd hD)
          have nHD : H D = none := s1.free hD
          refine lc_it (walk_zip (n := xs.length) (by omega)) (fun i H' => Same H H' ∧ H' D = some (.lst (List.replicate i (.bl true)))) ⟨sD, upd_same⟩ (fun i H' _ q => ⟨SqL.of (q.1 _ _ h1), SqL.of (q.1 _ _ h2)⟩) ?_ ?_
          · rintro i x H' H2 hi ⟨sI, eD⟩ ⟨Tp, x1, x2, rfl, nT, rfl, g1, g2⟩
            have s2 : Same H' (upd H' Tp (.tup [x1, x2])) := same_upd nT
            refine ⟨Tp, _, rfl, SqT.of upd_same, rfl, _, _, rfl, _, _, rfl, rfl, rfl, ?_⟩
            refine ⟨_, rfl, _, rfl, x1, x2, rfl, (hx i x1 x2 g1 g2).mono (sI.trans s2), fun H3 s3 => ⟨_, s3 _ _ (s2 _ _ eD), by rw [List.length_replicate, sizeLine_eq]; omega, ?_, ?_⟩⟩
            · exact same_over ((sI.trans s2).trans s3) nHD
            · rw [upd_same, ← List.replicate_succ']
          · rintro H' ⟨sI, eD⟩
            refine ⟨D, List.replicate xs.length true, rfl, SqL.of (by rw [eD, List.map_replicate]), ?_⟩
            have e : (List.replicate xs.length true).all id = true := by
              rw [List.all_eq_true]
              intro b hb
              exact (List.mem_replicate.mp hb).2
            rw [e]
            exact k _ sI
        · have tyA : ∀ p, H p = none → ∀ b zs, H b = some (.tup zs) → TyX K (upd H p (.tup [.ty "list", .ty "tuple"])) (.ref b) (.type "tuple") := fun p hp b zs e => .base (.tup (show upd H p _ b = _ by rw [upd_ne (ne_of_none e hp)]; exact e))
          refine ⟨.ref a, rfl, by show 2 ≤ sizeLine; rw [sizeLine_eq]; omega, fun p hp => ⟨.ref a, p, _, _, _, true, rfl, upd_same, .cons (.ty "list") (.cons (.ty "tuple") .nil), tyA p hp a xs h1, kitAny_cons (b := false) (kit_ty (by decide +kernel)) (fun _ => kitAny_cons (b := true) (kit_ty (by decide +kernel)) (fun z => by cases z) (fun _ => rfl)) (fun z => by cases z), true, rfl, iteT ?_⟩⟩
          have s1 : Same H (upd H p (.tup [.ty "list", .ty "tuple"])) := same_upd hp
          refine ⟨_, rfl, _, _, _, _, false, rfl, .ty "list", tyA p hp a' ys h2, kit_ty (by decide +kernel), _, rfl, _, _, _, _, false, rfl, .ty "list", tyA p hp a xs h1, kit_ty (by decide +kernel), rfl, true, congrArg V.bl (decide_eq_true rfl), ?_⟩
          refine ⟨_, rfl, _, _, _, _, true, rfl, .ty "tuple", tyA p hp a' ys h2, kit_ty (by decide +kernel), _, rfl, _, _, _, _, true, rfl, .ty "tuple", tyA p hp a xs h1, kit_ty (by decide +kernel), rfl, ?_⟩
          refine ⟨_, rfl, true, congrArg V.bl (decide_eq_true rfl), ?_⟩
          refine ⟨_, rfl, a, xs, rfl, .inr (SqT.of (s1 _ _ h1)), _, rfl, a', ys, rfl, .inr (SqT.of (s1 _ _ h2)), rfl, true, congrArg V.bl (decide_eq_true (by rw [hl])), ?_⟩
          refine ⟨_, rfl, _, rfl, a, a', xs, ys, rfl, .inr ⟨SqT.of (s1 _ _ h1), SqT.of (s1 _ _ h2), fun D hD => ?_⟩⟩
          have sD : Same H (upd (upd H p (.tup [.ty "list", .ty "tuple"])) D (.lst [])) := s1.trans (same_upd hD)
          have nHD : H D = none := s1.free hD
          refine lc_it (walk_zipT (n := xs.length) (by omega)) (fun i H' => Same H H' ∧ H' D = some (.lst (List.replicate i (.bl true)))) ⟨sD, upd_same⟩ (fun i H' _ q => ⟨SqT.of (q.1 _ _ h1), SqT.of (q.1 _ _ h2)⟩) ?_ ?_
          · rintro i x H' H2 hi ⟨sI, eD⟩ ⟨Tp, x1, x2, rfl, nT, rfl, g1, g2⟩
            have s2 : Same H' (upd H' Tp (.tup [x1, x2])) := same_upd nT
            refine ⟨Tp, _, rfl, SqT.of upd_same, rfl, _, _, rfl, _, _, rfl, rfl, rfl, ?_⟩
            refine ⟨_, rfl, _, rfl, x1, x2, rfl, (hx i x1 x2 g1 g2).mono (sI.trans s2), fun H3 s3 => ⟨_, s3 _ _ (s2 _ _ eD), by rw [List.length_replicate, sizeLine_eq]; omega, ?_, ?_⟩⟩
            · exact same_over ((sI.trans s2).trans s3) nHD
            · rw [upd_same, ← List.replicate_succ']
          · rintro H' ⟨sI, eD⟩
            refine ⟨D, List.replicate xs.length true, rfl, SqL.of (by rw [eD, List.map_replicate]), ?_⟩
            have e : (List.replicate xs.length true).all id = true := by
              rw [List.all_eq_true]
              intro b hb
              exact (List.mem_replicate.mp hb).2
            rw [e]
            exact k _ sI
end
end Q4

namespace Q4
open PySem PySem.Spec PyProof.Rows L2 LamX KT
open PySem.W (Frag)
section
variable {P : Program} {w : World} {K : Frag} {mg : Str → Option Value} {base : Heap}
def spLSigns (d : Nat) : Sp := fun vs H Q _ => ∃ v t, vs = [v] ∧ TyAt H v t ∧ t.signs ≤ d ∧ Q (.int t.signs) H
def D.pl (m : Int) : D → Bool
  | .i n => decide (0 ≤ n) && decide (n < m)
  | _ => false
def spIsPlace : Sp := fun vs H Q _ => ∃ v d m, vs = [v, .int m] ∧ DAt H v d ∧ Q (.bl (d.pl m)) H
theorem kd_t {ds : List D} (h : (D.t ds).isKd = true) : ∃ g a b, ds = [.s g, a, b] := by
  unfold D.isKd at h
  obtain ⟨t, ht⟩ := Option.isSome_iff_exists.mp h
  simp only [D.ty] at ht
  obtain ⟨g, x, y, a, b, e, _⟩ := mkTy_inv ht
  exact ⟨_, x, y, e⟩
theorem kd_3 (g : Str) (a b : D) : (D.t [.s g, a, b]).isKd = ((sgOf g).isSome && (a.isKd && b.isKd)) := by
  simp only [D.isKd, D.ty, tyAll, mkTy]
  cases e : sgOf g <;> cases a.ty <;> cases b.ty <;> simp [e]
theorem sg_in (g : Str) : inV (.str g) [V.str "over", .str "under", .str "then"] = (sgOf g).isSome := by
  have e := inV_str g [("over" : Str), "under", "then"]
  show inV (.str g) ([("over" : Str), "under", "then"].map V.str) = _
  rw [e]
  unfold sgOf
  by_cases h1 : g = "over"
  · subst h1
    decide +kernel
  · by_cases h2 : g = "then"
    · subst h2
      decide +kernel
    · by_cases h3 : g = "under"
      · subst h3
        decide +kernel
      · simp [h1, h2, h3]
def spLIsKind (n : Nat) : Sp := fun vs H Q _ => ∃ v d, vs = [v] ∧ DAt H v d ∧ d.dep ≤ n ∧ ∀ H', Same H H' → Q (.bl d.isKd) H'
theorem fn_vac {f : Addr} {fd : FuncData} {ps : List Str} : FnOk P w K mg base CX0 0 f fd ps (fun _ _ _ _ => False) := ⟨fun _ _ _ _ h => h.elim, fun _ _ _ _ _ _ _ _ _ _ _ _ _ h => h.elim⟩
end
end Q4

namespace Q4
open PySem PySem.Spec PyProof.Rows L2 LamX KT
open PySem.W (Frag)
/-! ### expressions that come to data -/
/-- from any heap that keeps H0 the expression comes to something that bears d -/
def Yd (t : TE) (σ : L2.St) (H0 : Hp) (d : D) : Prop := ∀ H, Same H0 H → ∀ Q : VK, (∀ v H', Same H H' → DAt H' v d → Q v H') → t σ H Q
def YdA (t : TA) (σ : L2.St) (H0 : Hp) (ds : List D) : Prop := ∀ H, Same H0 H → ∀ Q : List V → Hp → Prop, (∀ vs H', Same H H' → DsAt H' vs ds → Q vs H') → t σ H Q
theorem Yd.mono {t : TE} {σ : L2.St} {H0 H1 : Hp} {d : D} (h : Yd t σ H0 d) (s : Same H0 H1) : Yd t σ H1 d := fun H s1 => h H (s.trans s1)
theorem yd_var {i : Nat} {σ : L2.St} {H0 : Hp} {v : V} {d : D} (e : σ[i]? = some (some v)) (h : DAt H0 v d) : Yd (tVar i) σ H0 d := fun H s Q q => ⟨v, e, q v H (Same.refl H) (h.mono (TK.of_same s))⟩
theorem yd_str {σ : L2.St} {H0 : Hp} {z : Str} (ok : TxtOk z) : Yd (tC (.str z)) σ H0 (.s z) := fun H _ Q q => q _ H (Same.refl H) (.s ok)
theorem yd_int {σ : L2.St} {H0 : Hp} {n : Int} : Yd (tC (.int n)) σ H0 (.i n) := fun H _ Q q => q _ H (Same.refl H) (.i n)
theorem yda_nil {σ : L2.St} {H0 : Hp} : YdA tNil σ H0 [] := fun H _ Q q => q [] H (Same.refl H) .nil
theorem yda_cons {t : TE} {tr : TA} {σ : L2.St} {H0 : Hp} {d : D} {ds : List D} (h : Yd t σ H0 d) (hr : YdA tr σ H0 ds) : YdA (tCons t tr) σ H0 (d :: ds) := fun H s Q q =>
  h H s _ fun v H1 s1 hv => hr H1 (s.trans s1) _ fun vs H2 s2 hvs => q (v :: vs) H2 (s1.trans s2) (.cons (hv.mono (TK.of_same s2)) hvs)
theorem yd_tup {t : TA} {σ : L2.St} {H0 : Hp} {ds : List D} (h : YdA t σ H0 ds) (l : ds.length ≤ 100) : Yd (tTup t) σ H0 (.t ds) := fun H s Q q =>
  h H s _ fun vs H1 s1 hvs => ⟨by rw [hvs.length, sizeLine_eq]; omega, fun p np => q _ _ (s1.trans (same_upd np)) (.t upd_same (hvs.mono (TK.upd_new np)))⟩
theorem yda1 {t : TE} {σ : L2.St} {H0 : Hp} {d : D} (h : Yd t σ H0 d) : YdA (tCons t tNil) σ H0 [d] := yda_cons h yda_nil
theorem yda2 {t u : TE} {σ : L2.St} {H0 : Hp} {d e : D} (h : Yd t σ H0 d) (h' : Yd u σ H0 e) : YdA (tCons t (tCons u tNil)) σ H0 [d, e] := yda_cons h (yda1 h')
theorem yda3 {t u w : TE} {σ : L2.St} {H0 : Hp} {d e f : D} (h : Yd t σ H0 d) (h' : Yd u σ H0 e) (h'' : Yd w σ H0 f) : YdA (tCons t (tCons u (tCons w tNil))) σ H0 [d, e, f] := yda_cons h (yda2 h' h'')
theorem yda4 {t u w x : TE} {σ : L2.St} {H0 : Hp} {d e f g : D} (h : Yd t σ H0 d) (h' : Yd u σ H0 e) (h'' : Yd w σ H0 f) (h3 : Yd x σ H0 g) : YdA (tCons t (tCons u (tCons w (tCons x tNil)))) σ H0 [d, e, f, g] := yda_cons h (yda3 h' h'' h3)
/-- a text, and others behind it -/
theorem yt2 {t : TE} {σ : L2.St} {H0 : Hp} {z : Str} {d : D} (ok : TxtOk z) (h : Yd t σ H0 d) : Yd (tTup (tCons (tC (.str z)) (tCons t tNil))) σ H0 (.t [.s z, d]) := yd_tup (yda2 (yd_str ok) h) (by simp)
theorem yt3 {t u : TE} {σ : L2.St} {H0 : Hp} {z : Str} {d e : D} (ok : TxtOk z) (h : Yd t σ H0 d) (h' : Yd u σ H0 e) : Yd (tTup (tCons (tC (.str z)) (tCons t (tCons u tNil)))) σ H0 (.t [.s z, d, e]) := yd_tup (yda3 (yd_str ok) h h') (by simp)
theorem yt4 {t u w : TE} {σ : L2.St} {H0 : Hp} {z : Str} {d e f : D} (ok : TxtOk z) (h : Yd t σ H0 d) (h' : Yd u σ H0 e) (h'' : Yd w σ H0 f) : Yd (tTup (tCons (tC (.str z)) (tCons t (tCons u (tCons w tNil))))) σ H0 (.t [.s z, d, e, f]) := yd_tup (yda4 (yd_str ok) h h' h'') (by simp)
/-- an item of a tuple of data -/
theorem yd_ixT {K : Frag} {t : TE} {σ : L2.St} {H0 : Hp} {ds : List D} {d : D} {i : Nat} (h : Yd t σ H0 (.t ds)) (e : ds[i]? = some d) : Yd (tOp (rIxT K) t (tC (.int (i : Int)))) σ H0 d := fun H s Q q => h H s _ fun v H1 s1 hv => by
  cases hv with
  | @t p xs _ ex hx =>
    obtain ⟨hi, _⟩ := List.getElem?_eq_some_iff.mp e
    have hl := hx.length
    obtain ⟨x, ee⟩ : ∃ x, xs[i]? = some x := ⟨xs[i], List.getElem?_eq_getElem (by omega)⟩
    obtain ⟨d', e', hd⟩ := hx.at_ ee
    obtain rfl := Option.some.inj (e'.symm.trans e)
    exact ⟨p, xs, (i : Int), x, rfl, rfl, SqT.of ex, atI_nat ee, q x H1 s1 hd⟩
/-- a call, all of whose arguments are data -/
theorem yd_call {sp : Sp} {E : XK} {t : TA} {σ : L2.St} {H0 : Hp} {ds : List D} {d : D} (h : YdA t σ H0 ds) (c : ∀ vs H Q, Same H0 H → DsAt H vs ds → (∀ v H', Same H H' → DAt H' v d → Q v H') → sp vs H Q E) : Yd (tCall sp [] E t) σ H0 d := fun H s Q q =>
  h H s _ fun vs H1 s1 hvs => by
    rw [List.append_nil]
    exact c vs H1 Q (s.trans s1) hvs fun v H' s' hv => q v H' (s1.trans s') hv
theorem gN {i : Nat} {v : V} {σ : L2.St} {H : Hp} {Q : L2.St → Hp → Prop} (h : Q (σ.set i (some v)) H) : gName i v σ H Q := h
/-- name = data -/
theorem yd_set {te : TE} {i : Nat} {u : TS} {D0 : L2.Ends} {σ : L2.St} {H H0 : Hp} {d : D} (y : Yd te σ H0 d) (s : Same H0 H) (q : ∀ v H', Same H H' → DAt H' v d → u D0 (σ.set i (some v)) H') : tSeq (tAsg te (gName i)) u D0 σ H := y H s _ fun v H' s' h => q v H' s' h
theorem yd_ret {te : TE} {D0 : L2.Ends} {σ : L2.St} {H H0 : Hp} {d : D} (y : Yd te σ H0 d) (s : Same H0 H) (q : ∀ v H', Same H H' → DAt H' v d → D0.rt v H') : tRet te D0 σ H := y H s _ fun v H' s' h => q v H' s' h
/-- a list of data, in a new list -/
theorem yda_lst {t : TA} {σ : L2.St} {H H0 : Hp} {ds : List D} {Q : VK} (y : YdA t σ H0 ds) (s : Same H0 H) (l : ds.length ≤ 100) (q : ∀ (L : Addr) vs H', Same H H' → H L = none → H' L = some (.lst vs) → DsAt H' vs ds → Q (.ref L) H') : tLst t σ H Q := y H s _ fun vs H1 s1 hvs => ⟨by rw [hvs.length, sizeLine_eq]; omega, fun L nL => q L vs _ (s1.trans (same_upd nL)) (s1.free nL) upd_same (hvs.mono (TK.upd_new nL))⟩
theorem yda_ret {t : TA} {D0 : L2.Ends} {σ : L2.St} {H H0 : Hp} {ds : List D} (y : YdA t σ H0 ds) (s : Same H0 H) (l : ds.length ≤ 100) (q : ∀ (L : Addr) vs H', Same H H' → H L = none → H' L = some (.lst vs) → DsAt H' vs ds → D0.rt (.ref L) H') : tRet (tLst t) D0 σ H := yda_lst y s l q
theorem tx_over : TxtOk "over" := ⟨by decide +kernel, by decide +kernel⟩
theorem tx_under : TxtOk "under" := ⟨by decide +kernel, by decide +kernel⟩
theorem tx_then : TxtOk "then" := ⟨by decide +kernel, by decide +kernel⟩
end Q4

namespace Q4
open PySem PySem.Spec PyProof.Rows L2 LamX KT
open PySem.W (Frag)
/-! ### lists of data -/
def YdL (t : TE) (σ : L2.St) (H0 : Hp) (ds : List D) : Prop := ∀ H, Same H0 H → ∀ Q : VK, (∀ (L : Addr) vs H', Same H H' → H' L = some (.lst vs) → DsAt H' vs ds → Q (.ref L) H') → t σ H Q
theorem ydl_lst {t : TA} {σ : L2.St} {H0 : Hp} {ds : List D} (h : YdA t σ H0 ds) (l : ds.length ≤ 100) : YdL (tLst t) σ H0 ds := fun H s Q q => yda_lst h s l fun L vs H' s' _ e hv => q L vs H' s' e hv
theorem ydl_var {i : Nat} {σ : L2.St} {H0 : Hp} {L : Addr} {vs : List V} {ds : List D} (e : σ[i]? = some (some (.ref L))) (eL : H0 L = some (.lst vs)) (h : DsAt H0 vs ds) : YdL (tVar i) σ H0 ds := fun H s Q q => ⟨_, e, q L vs H (Same.refl H) (s _ _ eL) (h.mono (TK.of_same s))⟩
theorem ydl_cat {t u : TE} {σ : L2.St} {H0 : Hp} {ds es : List D} (h : YdL t σ H0 ds) (h' : YdL u σ H0 es) (l : ds.length + es.length ≤ 1000) : YdL (tOp rCat t u) σ H0 (ds ++ es) := fun H s Q q =>
  h H s _ fun L vs H1 s1 e1 d1 => h' H1 (s.trans s1) _ fun M us H2 s2 e2 d2 => ⟨L, M, vs, us, rfl, rfl, s2 _ _ e1, e2, by rw [d1.length, d2.length, sizeLine_eq]; omega, fun p np => q p _ _ ((s1.trans s2).trans (same_upd np)) upd_same (((d1.mono (TK.of_same s2)).append d2).mono (TK.upd_new np))⟩
/-- an index that is known -/
def Yi (t : TE) (σ : L2.St) (H0 : Hp) (i : Int) : Prop := ∀ H, Same H0 H → ∀ Q : VK, Q (.int i) H → t σ H Q
theorem yi_int {σ : L2.St} {H0 : Hp} {i : Int} : Yi (tC (.int i)) σ H0 i := fun _ _ _ q => q
theorem yi_var {i : Nat} {n : Int} {σ : L2.St} {H0 : Hp} (e : σ[i]? = some (some (.int n))) : Yi (tVar i) σ H0 n := fun _ _ _ q => ⟨_, e, q⟩
theorem yd_ixL {K : Frag} {t ti : TE} {σ : L2.St} {H0 : Hp} {ds : List D} {d : D} {i : Nat} (h : YdL t σ H0 ds) (hi : Yi ti σ H0 (i : Int)) (e : ds[i]? = some d) : Yd (tOp (rIxL K) t ti) σ H0 d := fun H s Q q =>
  h H s _ fun L vs H1 s1 e1 d1 => hi H1 (s.trans s1) _ (by
    obtain ⟨hi', _⟩ := List.getElem?_eq_some_iff.mp e
    have hl := d1.length
    obtain ⟨x, ee⟩ : ∃ x, vs[i]? = some x := ⟨vs[i], List.getElem?_eq_getElem (by omega)⟩
    obtain ⟨d', e', hd⟩ := d1.at_ ee
    obtain rfl := Option.some.inj (e'.symm.trans e)
    exact ⟨L, vs, (i : Int), x, rfl, rfl, SqL.of e1, atI_nat ee, q x H1 s1 hd⟩)
theorem ydl_set {te : TE} {i : Nat} {u : TS} {D0 : L2.Ends} {σ : L2.St} {H H0 : Hp} {ds : List D} (y : YdL te σ H0 ds) (s : Same H0 H) (q : ∀ (L : Addr) vs H', Same H H' → H' L = some (.lst vs) → DsAt H' vs ds → u D0 (σ.set i (some (.ref L))) H') : tSeq (tAsg te (gName i)) u D0 σ H := y H s _ fun L vs H' s' e h => q L vs H' s' e h
theorem yd_ret' {te : TE} {D0 : L2.Ends} {σ : L2.St} {H H0 : Hp} {d : D} (y : Yd te σ H0 d) (s : Same H0 H) (q : ∀ v H', Same H H' → DAt H' v d → D0.rt v H') : tRet te D0 σ H := yd_ret y s q
end Q4

namespace Q4
open PySem PySem.Spec PyProof.Rows L2 LamX KT
open PySem.W (Frag)
theorem txtIs (z : Str) (h : z = "is" ∨ z = "over made" ∨ z = "under made" ∨ z = "then made" ∨ z = "over used" ∨ z = "under used" ∨ z = "then used" ∨ z = "cut") : TxtOk z := by
  rcases h with h | h | h | h | h | h | h | h <;> subst h <;> exact ⟨by decide +kernel, by decide +kernel⟩
theorem ty_dp {K : Frag} {H : Hp} {x : V} {t : Ty} (h : TyAt H x t) (dk : t.d.dep ≤ 60) : Dp K H x t.d.py ∧ SeqAt.shaped t.d.py = true := ⟨(DAt.py (K := K) h.d).1, DAt.shaped (K := K) h.d (by omega)⟩
abbrev isD (t : Ty) : D := .t [.s "is", t.d]
theorem isD_tl (t : Ty) (h : t.wok) : (isD t).tl = some ([t], t) := tl_of (.is (t.ty_d h))
abbrev ovD (k d : D) : D := .t [.s "over used", .i 0, .t [.s "is", k], d]
abbrev unD (k d : D) : D := .t [.s "under used", .i 0, .t [.s "is", k], d]
abbrev omD (d : D) : D := .t [.s "over made", d]
abbrev umD (d : D) : D := .t [.s "under made", d]
abbrev coD (a b c : Ty) : D := .t [.s "over used", .i 1, isD c, ovD b.d (isD a)]
abbrev cuD (c b a : Ty) : D := unD c.d (unD b.d (isD a))
/-! what they tell -/
theorem coD_tl {a b c : Ty} (h1 : a.wok) (h2 : b.wok) (h3 : c.wok) : (coD a b c).tl = some ([.n .ov a b, .n .ov b c, c], a) :=
  tl_of (.us (ry := ([.n .ov a b, b], a)) (by decide) (isD_tl c h3) (tl_of (.us (by decide) (isD_tl b h2) (isD_tl a h1) (by simp [usedAt]))) (by simp [usedAt]))
theorem cuD_tl {a b c : Ty} (h1 : a.wok) (h2 : b.wok) (h3 : c.wok) : (cuD c b a).tl = some ([c, .n .un c b, .n .un b a], a) :=
  tl_of (.us (ry := ([b, .n .un b a], a)) (by decide) (isD_tl c h3) (tl_of (.us (by decide) (isD_tl b h2) (isD_tl a h1) (by simp [usedAt]))) (by simp [usedAt]))
/-! the cases: what is asked, what comes, what it tells -/
inductive Case : Int → List D → D → List Ty → Ty → Prop
  | r0 {a b : Ty} : a.wok → b.wok → Case 0 [a.d, b.d, .s "over"] (omD (unD a.d (isD b))) [a] (.n .ov b (.n .un a b))
  | r1 {a b : Ty} : a.wok → b.wok → Case 0 [a.d, b.d, .s "under"] (umD (ovD a.d (isD b))) [a] (.n .un (.n .ov b a) b)
  | c0 {a b c : Ty} : a.wok → b.wok → c.wok → Case 1 [(Ty.n .ov a b).d, (Ty.n .ov b c).d] (omD (coD a b c)) [.n .ov a b, .n .ov b c] (.n .ov a c)
  | c1 {a b c : Ty} : a.wok → b.wok → c.wok → Case 1 [(Ty.n .un c b).d, (Ty.n .un b a).d] (umD (cuD c b a)) [.n .un c b, .n .un b a] (.n .un c a)
  | d0 {a b c : Ty} : a.wok → b.wok → c.wok → Case 2 [(Ty.n .ov a b).d, c.d] (omD (omD (coD a b c))) [.n .ov a b] (.n .ov (.n .ov a c) (.n .ov b c))
  | d1 {a b c : Ty} : a.wok → b.wok → c.wok → Case 2 [(Ty.n .un b a).d, c.d] (umD (umD (cuD c b a))) [.n .un b a] (.n .un (.n .un c b) (.n .un c a))
  | s0 {a b c : Ty} : a.wok → b.wok → c.wok → Case 3 [(Ty.n .ov (.n .un b a) c).d] (umD (omD (.t [.s "over used", .i 1, isD c, unD b.d (isD a)]))) [.n .ov (.n .un b a) c] (.n .un b (.n .ov a c))
  | s1 {a b c : Ty} : a.wok → b.wok → c.wok → Case 3 [(Ty.n .un b (.n .ov a c)).d] (omD (umD (unD b.d (ovD c.d (isD a))))) [.n .un b (.n .ov a c)] (.n .ov (.n .un b a) c)
  | p0 {a b c : Ty} : a.wok → b.wok → c.wok → Case 4 [(Ty.n .ov a (.n .th b c)).d] (omD (omD (.t [.s "over used", .i 0, .t [.s "then made", isD b, isD c], isD a]))) [.n .ov a (.n .th b c)] (.n .ov (.n .ov a c) b)
  | p1 {a b c : Ty} : a.wok → b.wok → c.wok → Case 4 [(Ty.n .un (.n .th b c) a).d] (umD (umD (.t [.s "under used", .i 0, .t [.s "then made", isD b, isD c], isD a]))) [.n .un (.n .th b c) a] (.n .un c (.n .un b a))
  | k0 {a b c : Ty} : a.wok → b.wok → c.wok → Case 5 [(Ty.n .ov (.n .ov a c) b).d] (omD (.t [.s "then used", .i 1, ovD b.d (ovD c.d (isD a))])) [.n .ov (.n .ov a c) b] (.n .ov a (.n .th b c))
  | k1 {a b c : Ty} : a.wok → b.wok → c.wok → Case 5 [(Ty.n .un c (.n .un b a)).d] (umD (.t [.s "then used", .i 0, .t [.s "under used", .i 1, isD c, unD b.d (isD a)]])) [.n .un c (.n .un b a)] (.n .un (.n .th b c) a)
theorem Case.tl {j : Int} {ds : List D} {d : D} {row : List Ty} {goal : Ty} (h : Case j ds d row goal) : d.tl = some (row, goal) := by
  cases h with
  | @r0 a b h1 h2 => exact tl_of (.om (rx := ([a, .n .un a b], b)) (tl_of (.us (by decide) (isD_tl a h1) (isD_tl b h2) (by simp [usedAt]))) (by simp [madeO]))
  | @r1 a b h1 h2 => exact tl_of (.um (rx := ([.n .ov b a, a], b)) (tl_of (.us (by decide) (isD_tl a h1) (isD_tl b h2) (by simp [usedAt]))) (by simp [madeU]))
  | @c0 a b c h1 h2 h3 => exact tl_of (.om (coD_tl h1 h2 h3) (by simp [madeO]))
  | @c1 a b c h1 h2 h3 => exact tl_of (.um (cuD_tl h1 h2 h3) (by simp [madeU]))
  | @d0 a b c h1 h2 h3 => exact tl_of (.om (rx := ([.n .ov a b, .n .ov b c], .n .ov a c)) (tl_of (.om (coD_tl h1 h2 h3) (by simp [madeO]))) (by simp [madeO]))
  | @d1 a b c h1 h2 h3 => exact tl_of (.um (rx := ([.n .un c b, .n .un b a], .n .un c a)) (tl_of (.um (cuD_tl h1 h2 h3) (by simp [madeU]))) (by simp [madeU]))
  | @s0 a b c h1 h2 h3 => exact tl_of (.um (rx := ([b, .n .ov (.n .un b a) c], .n .ov a c)) (tl_of (.om (rx := ([b, .n .ov (.n .un b a) c, c], a)) (tl_of (.us (ry := ([b, .n .un b a], a)) (by decide) (isD_tl c h3) (tl_of (.us (by decide) (isD_tl b h2) (isD_tl a h1) (by simp [usedAt]))) (by simp [usedAt]))) (by simp [madeO]))) (by simp [madeU]))
  | @s1 a b c h1 h2 h3 => exact tl_of (.om (rx := ([.n .un b (.n .ov a c), c], .n .un b a)) (tl_of (.um (rx := ([b, .n .un b (.n .ov a c), c], a)) (tl_of (.us (ry := ([.n .ov a c, c], a)) (by decide) (isD_tl b h2) (tl_of (.us (by decide) (isD_tl c h3) (isD_tl a h1) (by simp [usedAt]))) (by simp [usedAt]))) (by simp [madeU]))) (by simp [madeO]))
  | @p0 a b c h1 h2 h3 => exact tl_of (.om (rx := ([.n .ov a (.n .th b c), b], .n .ov a c)) (tl_of (.om (rx := ([.n .ov a (.n .th b c), b, c], a)) (tl_of (.us (by decide) (tl_of (.tm (isD_tl b h2) (isD_tl c h3))) (isD_tl a h1) (by simp [usedAt, thenM]))) (by simp [madeO]))) (by simp [madeO]))
  | @p1 a b c h1 h2 h3 => exact tl_of (.um (rx := ([c, .n .un (.n .th b c) a], .n .un b a)) (tl_of (.um (rx := ([b, c, .n .un (.n .th b c) a], a)) (tl_of (.us (by decide) (tl_of (.tm (isD_tl b h2) (isD_tl c h3))) (isD_tl a h1) (by simp [usedAt, thenM]))) (by simp [madeU]))) (by simp [madeU]))
  | @k0 a b c h1 h2 h3 => exact tl_of (.om (rx := ([.n .ov (.n .ov a c) b, .n .th b c], a)) (tl_of (.tu (ry := ([.n .ov (.n .ov a c) b, b, c], a)) (tl_of (.us (ry := ([.n .ov a c, c], a)) (by decide) (isD_tl b h2) (tl_of (.us (by decide) (isD_tl c h3) (isD_tl a h1) (by simp [usedAt]))) (by simp [usedAt]))) (by simp [thenU]))) (by simp [madeO]))
  | @k1 a b c h1 h2 h3 => exact tl_of (.um (rx := ([.n .th b c, .n .un c (.n .un b a)], a)) (tl_of (.tu (ry := ([b, c, .n .un c (.n .un b a)], a)) (tl_of (.us (ry := ([b, .n .un b a], a)) (by decide) (isD_tl c h3) (tl_of (.us (by decide) (isD_tl b h2) (isD_tl a h1) (by simp [usedAt]))) (by simp [usedAt]))) (by simp [thenU]))) (by simp [madeU]))
section
variable {P : Program} {w : World} {K : Frag} {mg : Str → Option Value} {base : Heap}
/-- data in, data out -/
def spR (n : Nat) (R : List D → D → Prop) : Sp := fun vs H Q _ => ∃ ds d, vs.length = n ∧ DsAt H vs ds ∧ R ds d ∧ ∀ v' H', Same H H' → DAt H' v' d → Q v' H'
theorem yd_spR {n : Nat} {R : List D → D → Prop} {t : TA} {σ : L2.St} {H0 : Hp} {ds : List D} {d : D} (h : YdA t σ H0 ds) (l : ds.length = n) (r : R ds d) : Yd (tCall (spR n R) [] L2.E0 t) σ H0 d := yd_call h fun vs H Q _ hv q => ⟨ds, d, by rw [hv.length, l], hv, r, q⟩
theorem ok_over {f : Addr} {fd : FuncData} (T : Top K mg "_over" sOver pOver f fd) : FnOk P w K mg base CX0 1 f fd pOver (spR 2 fun ds d => ∃ x k, ds = [x, k] ∧ d = ovD k x) := by
  refine T.F.ok scOver (fun vs H Q E h => ?_) (fun cdv A outer s H vs Q E hr h => ?_)
  · obtain ⟨_, _, l, _⟩ := h
    exact l
  · obtain ⟨_, _, _, hd, ⟨x, k, rfl, rfl⟩, q⟩ := h
    cases hd with
    | cons h1 hd => cases hd with
      | cons h2 hd =>
        cases hd
        refine ⟨_, (pss_one (ps_ret (pe_tup (pa_cons pe_str (pa_cons pe_int (pa_cons (pe_tup (pa_cons pe_str (pa_cons (pv 1) pa_nil))) (pa_cons (pv 0) pa_nil))))))), ?_⟩
        exact yd_ret (yt4 (d := .i 0) (txtIs _ (by simp)) yd_int (yt2 (txtIs _ (by simp)) (yd_var (by rfl) h2)) (yd_var (by rfl) h1)) (Same.refl H) q
theorem ok_under {f : Addr} {fd : FuncData} (T : Top K mg "_under" sUnder pUnder f fd) : FnOk P w K mg base CX0 1 f fd pUnder (spR 2 fun ds d => ∃ x k, ds = [x, k] ∧ d = unD k x) := by
  refine T.F.ok scUnder (fun vs H Q E h => ?_) (fun cdv A outer s H vs Q E hr h => ?_)
  · obtain ⟨_, _, l, _⟩ := h
    exact l
  · obtain ⟨_, _, _, hd, ⟨x, k, rfl, rfl⟩, q⟩ := h
    cases hd with
    | cons h1 hd => cases hd with
      | cons h2 hd =>
        cases hd
        refine ⟨_, (pss_one (ps_ret (pe_tup (pa_cons pe_str (pa_cons pe_int (pa_cons (pe_tup (pa_cons pe_str (pa_cons (pv 1) pa_nil))) (pa_cons (pv 0) pa_nil))))))), ?_⟩
        exact yd_ret (yt4 (d := .i 0) (txtIs _ (by simp)) yd_int (yt2 (txtIs _ (by simp)) (yd_var (by rfl) h2)) (yd_var (by rfl) h1)) (Same.refl H) q
abbrev ROv : List D → D → Prop := fun ds d => ∃ x k, ds = [x, k] ∧ d = ovD k x
abbrev RUn : List D → D → Prop := fun ds d => ∃ x k, ds = [x, k] ∧ d = unD k x
abbrev RCO : List D → D → Prop := fun ds d => ∃ a b c : Ty, ds = [a.d, b.d, c.d] ∧ d = coD a b c
abbrev RCU : List D → D → Prop := fun ds d => ∃ a b c : Ty, ds = [c.d, b.d, a.d] ∧ d = cuD c b a
theorem ok_compOver {f fo : Addr} {fd fdo : FuncData} (T : Top K mg "_composed_over" sComposedOver pComposedOver f fd) (TO : Top K mg "_over" sOver pOver fo fdo) (GO : FnOk P w K mg base CX0 1 fo fdo pOver (spR 2 ROv)) : FnOk P w K mg base CX0 2 f fd pComposedOver (spR 3 RCO) := by
  refine T.F.ok scComposedOver (fun vs H Q E h => ?_) (fun cdv A outer s H vs Q E hr h => ?_)
  · obtain ⟨_, _, l, _⟩ := h
    exact l
  · obtain ⟨_, _, _, hd, ⟨a, b, c, rfl, rfl⟩, q⟩ := h
    cases hd with
    | cons h1 hd => cases hd with
      | cons h2 hd => cases hd with
        | cons h3 hd =>
          cases hd
          refine ⟨_, (pss_one (ps_ret (pe_tup (pa_cons pe_str (pa_cons pe_int (pa_cons (pe_tup (pa_cons pe_str (pa_cons (pv 2) pa_nil))) (pa_cons (pe_call GO hr rfl TO.g TO.F.kp TO.b .nil pass0 (pa_cons (pe_tup (pa_cons pe_str (pa_cons (pv 0) pa_nil))) (pa_cons (pv 1) pa_nil))) pa_nil))))))), ?_⟩
          exact yd_ret (yt4 (d := .i 1) (txtIs _ (by simp)) yd_int (yt2 (txtIs _ (by simp)) (yd_var (by rfl) h3)) (yd_spR (yda2 (yt2 (txtIs _ (by simp)) (yd_var (by rfl) h1)) (yd_var (by rfl) h2)) rfl ⟨_, _, rfl, rfl⟩)) (Same.refl H) q
theorem ok_compUnder {f fo : Addr} {fd fdo : FuncData} (T : Top K mg "_composed_under" sComposedUnder pComposedUnder f fd) (TO : Top K mg "_under" sUnder pUnder fo fdo) (GO : FnOk P w K mg base CX0 1 fo fdo pUnder (spR 2 RUn)) : FnOk P w K mg base CX0 2 f fd pComposedUnder (spR 3 RCU) := by
  refine T.F.ok scComposedUnder (fun vs H Q E h => ?_) (fun cdv A outer s H vs Q E hr h => ?_)
  · obtain ⟨_, _, l, _⟩ := h
    exact l
  · obtain ⟨_, _, _, hd, ⟨a, b, c, rfl, rfl⟩, q⟩ := h
    cases hd with
    | cons h1 hd => cases hd with
      | cons h2 hd => cases hd with
        | cons h3 hd =>
          cases hd
          refine ⟨_, (pss_one (ps_ret (pe_call GO hr rfl TO.g TO.F.kp TO.b .nil pass0 (pa_cons (pe_call GO hr rfl TO.g TO.F.kp TO.b .nil pass0 (pa_cons (pe_tup (pa_cons pe_str (pa_cons (pv 2) pa_nil))) (pa_cons (pv 1) pa_nil))) (pa_cons (pv 0) pa_nil))))), ?_⟩
          exact yd_ret (yd_spR (yda2 (yd_spR (yda2 (yt2 (txtIs _ (by simp)) (yd_var (by rfl) h3)) (yd_var (by rfl) h2)) rfl ⟨_, _, rfl, rfl⟩) (yd_var (by rfl) h1)) rfl ⟨_, _, rfl, rfl⟩) (Same.refl H) q
/-- has a type this sign ahead? -/
def Ty.hasSg (g : Sg) : Ty → Bool
  | .w _ => false
  | .n g' _ _ => decide (g' = g)
def spHasSign : Sp := fun vs H Q _ => ∃ v t g, vs = [v, .str (Sg.str g)] ∧ TyAt H v t ∧ Q (.bl (t.hasSg g)) H
theorem ok_hasSign {f : Addr} {fd : FuncData} (T : Top K mg "has_sign" sHasSign pHasSign f fd) (B : Blt mg) : FnOk P w K mg base CX0 1 f fd pHasSign spHasSign := by
  refine T.F.ok scHasSign (fun vs H Q E h => ?_) (fun cdv A outer s H vs Q E hr h => ?_)
  · obtain ⟨_, _, _, rfl, _⟩ := h
    rfl
  · obtain ⟨v, t, g, rfl, ht, q⟩ := h
    refine ⟨_, (pss_one (ps_ret (pe_and (pe_callB call_isi (by rfl) B.isi (by decide +kernel) (pa_cons (pv 0) (pa_cons (pe_bltn (v := .ty "tuple") (by rfl) B.tuple (by decide +kernel) rfl) pa_nil))) (pe_one (pe_cmpR op_eq (pe_ix ix_tup (pv 0) pe_int (fun _ _ => rfl)) (pv 1) (nomark _)))))), ?_⟩
    cases ht with
    | @w z h => exact ⟨_, rfl, _, _, _, _, false, rfl, .ty "tuple", .base (.str z), kit_ty (by decide +kernel), false, rfl, q⟩
    | @n p g' x y a b e h1 h2 =>
      refine ⟨_, rfl, _, _, _, _, true, rfl, .ty "tuple", .base (.tup e), kit_ty (by decide +kernel), true, rfl, ?_⟩
      refine ⟨_, rfl, p, _, _, _, rfl, rfl, SqT.of e, atI_nat (j := 0) rfl, _, rfl, rfl, ?_⟩
      have e1 : decide (V.str g'.str = V.str g.str) = decide (g' = g) := by
        cases g <;> cases g' <;> decide +kernel
      dsimp only
      rw [e1]
      exact q
end
end Q4

namespace Q4
open PySem PySem.Spec PyProof.Rows L2 NdefX LamX KT
open PySem.W (Frag)
/-! ### walks from inside, of any trees of data, by any callee -/
def ndAll (nd : D → List D) : List D → List D
  | [] => []
  | d :: r => nd d ++ ndAll nd r
theorem ndAll_app (nd : D → List D) (l r : List D) : ndAll nd (l ++ r) = ndAll nd l ++ ndAll nd r := by
  induction l with
  | nil => rfl
  | cons d l ih => simp only [List.cons_append, ndAll, ih, List.append_assoc]
/-- trees: parts, nodes, which data are such -/
structure Tree (pt nd : D → List D) (Dm : D → Prop) : Prop where
  nd : ∀ u, Dm u → nd u = u :: ndAll nd (pt u).reverse
  sz : ∀ u, Dm u → sizeAll (pt u) < u.size ∧ (pt u).length ≤ 2
  dm : ∀ u, Dm u → ∀ p ∈ pt u, Dm p
inductive RunG (pt : D → List D) : List D → List D → List D → Prop
  | nil {S : List D} : RunG pt S [] S
  | cons {S R S' : List D} {u : D} : RunG pt (S ++ [u]) R S' → RunG pt (S ++ pt u) (u :: R) S'
theorem RunG.inv {pt : D → List D} {S R S' : List D} {u : D} (h : RunG pt S (u :: R) S') : ∃ S0, S = S0 ++ pt u ∧ RunG pt (S0 ++ [u]) R S' := by
  cases h with
  | cons h => exact ⟨_, rfl, h⟩
theorem RunG.end_ {pt : D → List D} {S S' : List D} (h : RunG pt S [] S') : S = S' := by
  cases h
  rfl
theorem Tree.len {pt nd : D → List D} {Dm : D → Prop} (T : Tree pt nd Dm) : ∀ (n : Nat) (u : D), u.size ≤ n → Dm u → (nd u).length ≤ u.size ∧ ∀ x ∈ nd u, Dm x := by
  intro n
  induction n with
  | zero => intro u h; have := u.size_pos; omega
  | succ n ih =>
    intro u h ha
    obtain ⟨ps, _⟩ := T.sz u ha
    have hp := T.dm u ha
    rw [T.nd u ha]
    have key : ∀ l : List D, sizeAll l ≤ n → (∀ p ∈ l, Dm p) → (ndAll nd l).length ≤ sizeAll l ∧ ∀ x ∈ ndAll nd l, Dm x := by
      intro l
      induction l with
      | nil => intro _ _; exact ⟨Nat.le_refl _, fun x hx => by cases hx⟩
      | cons d r ihr =>
        intro hl hk
        simp only [sizeAll] at hl
        obtain ⟨a1, a2⟩ := ih d (by omega) (hk d List.mem_cons_self)
        obtain ⟨b1, b2⟩ := ihr (by omega) fun p hp => hk p (List.mem_cons_of_mem _ hp)
        refine ⟨by simp only [ndAll, List.length_append, sizeAll]; omega, fun x hx => ?_⟩
        rcases List.mem_append.mp hx with hx | hx
        · exact a2 x hx
        · exact b2 x hx
    obtain ⟨a1, a2⟩ := key (pt u).reverse (by rw [sizeAll_rev]; omega) fun p hp' => hp p (List.mem_reverse.mp hp')
    rw [sizeAll_rev] at a1
    refine ⟨by rw [List.length_cons]; omega, fun x hx => ?_⟩
    rcases List.mem_cons.mp hx with e | hx
    · rw [e]; exact ha
    · exact a2 x hx
theorem Tree.run {pt nd : D → List D} {Dm : D → Prop} (T : Tree pt nd Dm) : ∀ (n : Nat) (u : D), u.size ≤ n → Dm u → ∀ (S R S' : List D), RunG pt (S ++ [u]) R S' → RunG pt S ((nd u).reverse ++ R) S' := by
  intro n
  induction n with
  | zero => intro u h; have := u.size_pos; omega
  | succ n ih =>
    intro u h ha S R S' hr
    obtain ⟨ps, _⟩ := T.sz u ha
    have hp := T.dm u ha
    have key : ∀ (l : List D), sizeAll l ≤ n → (∀ p ∈ l, Dm p) → ∀ (S R S' : List D), RunG pt (S ++ l) R S' → RunG pt S ((ndAll nd l.reverse).reverse ++ R) S' := by
      intro l
      induction l with
      | nil => intro _ _ S R S' q; simpa [ndAll] using q
      | cons d r ihr =>
        intro hl hk S R S' q
        simp only [sizeAll] at hl
        have e : (ndAll nd (d :: r).reverse).reverse ++ R = (nd d).reverse ++ ((ndAll nd r.reverse).reverse ++ R) := by
          rw [List.reverse_cons, ndAll_app]
          simp [ndAll]
        rw [e]
        refine ih d (by omega) (hk d List.mem_cons_self) _ _ _ (ihr (by omega) (fun p hp => hk p (List.mem_cons_of_mem _ hp)) _ _ _ ?_)
        rw [List.append_assoc]
        exact q
    have e : (nd u).reverse ++ R = (ndAll nd (pt u).reverse).reverse ++ (u :: R) := by rw [T.nd u ha]; simp
    rw [e]
    exact key (pt u) (by omega) hp _ _ _ (.cons hr)
/-- all but tables stays, nothing goes -/
def ExtS (H H' : Hp) : Prop := ExtN H H' ∧ ∀ b, H' b = none → H b = none
theorem ExtS.refl (H : Hp) : ExtS H H := ⟨ExtN.refl H, fun _ h => h⟩
theorem ExtS.trans {H H1 H2 : Hp} (h : ExtS H H1) (h' : ExtS H1 H2) : ExtS H H2 := ⟨h.1.trans h'.1, fun b e => h.2 b (h'.2 b e)⟩
theorem ExtS.of_same {H H' : Hp} (s : Same H H') : ExtS H H' := ⟨fun b o e _ => s b o e, fun b e => s.free e⟩
theorem ExtS.lst {H H' : Hp} (h : ExtS H H') {b : Addr} {xs : List V} (e : H b = some (.lst xs)) : H' b = some (.lst xs) := h.1 b _ e fun ps z => by cases z
theorem ExtS.tk {H H' : Hp} (h : ExtS H H') : TK H H' := fun p xs e => h.1 p _ e fun ps z => by cases z
theorem ExtS.over {H H' : Hp} {W : Addr} {o : HO} (h : ExtS H H') (n : H W = none) : ExtS H (upd H' W o) := by
  refine ⟨fun b u e m => ?_, fun b e => ?_⟩
  · rw [upd_ne fun z => by rw [z, n] at e; cases e]
    exact h.1 b u e m
  · by_cases z : b = W
    · rw [z]; exact n
    · rw [upd_ne z] at e
      exact h.2 b e
/-- what comes of a node: a relation that bears growth -/
structure Rel (ρ : Type) where
  R : (Addr → Prop) → Hp → V → ρ → Prop
  mono : ∀ {ok ok' : Addr → Prop} {H H' : Hp} {v : V} {r : ρ}, R ok H v r → (∀ a, ok a → ok' a) → (∀ a xs, ok a → H a = some (.lst xs) → H' a = some (.lst xs)) → TK H H' → R ok' H' v r
/-- data, as a relation -/
def relD : Rel D := ⟨fun _ H v d => DAt H v d, fun h _ _ t => h.mono t⟩
section
variable {P : Program} {w : World} {K : Frag} {mg : Str → Option Value} {base : Heap}
def spPartsG (pt : D → List D) (Dm : D → Prop) : Sp := fun vs H Q _ => ∃ v u, vs = [v] ∧ DAt H v u ∧ Dm u ∧ ∀ p us, H p = none → DsAt H us (pt u) → Q (.ref p) (upd H p (.tup us))
def spNodesG (nd : D → List D) (Dm : D → Prop) (fp : Addr) : Sp := fun vs H Q _ => ∃ v d, vs = [v, .ref fp] ∧ DAt H v d ∧ Dm d ∧ d.size ≤ 1000000 ∧
  ∀ (L : Addr) (us : List V) (H' : Hp), Same H H' → H L = none → H' L = some (.lst us) → DsAt H' us (nd d) → Q (.ref L) H'
end
end Q4

namespace Q4
open PySem PySem.Spec PyProof.Rows L2 NdefX LamX KT
open PySem.W (Frag)
section
variable {P : Program} {w : World} {K : Frag} {mg : Str → Option Value} {base : Heap}
/-- a def of the top whose code object is at c -/
structure TopC (K : Frag) (mg : Str → Option Value) (x : Str) (st : Stmt) (ps : List Str) (f : Addr) (fd : FuncData) (c : Addr) : Prop where
  T : Top K mg x st ps f fd
  ex : ∃ (oc : Value) (od : Option Addr) (kV doc pm : Value) (an : Option Addr) (ct : Value) (osl : Array (Option Value)),
    fd = PySem.W.fnOf x x (defArgs st) (defBody st) (defScope st) .none kV doc pm an (.ref c) ct ∧ K.lookup f = some ⟨oc, od, .func fd, osl⟩ ∧ PySem.W.codeIn K (.ref c) x = true
theorem TopC.fnd {x : Str} {st : Stmt} {ps N : List Str} {f c : Addr} {fd : FuncData} {k : Nat} {sp : Pins → Sp} (T : TopC K mg x st ps f fd c) (S : FnScope N ps (defScope st)) (len : ∀ D vs H Q, sp D vs H Q L2.E0 → vs.length = ps.length)
    (body : ∀ (D : Pins) (B : Around) (outer : List Env) (s : Shared) (H : Hp) (vs : List V) (Q : VK), Room k (B.deeper (envOfC x (defScope st) s.heap.objs.size f (.ref c))) → Dep D outer s H → sp D vs H Q L2.E0 →
      ∃ t, PSs (cxOf L2.CX0 P w K mg base N x (defScope st) f (.ref c) B outer s H L2.E0).nox (defBody st) t ∧ t { nx := fun _ H' => Q .non H', rt := Q } (start N vs) H) : FnD P w K mg base (k + 1) f fd ps sp := by
  obtain ⟨oc, od, kV, doc, pm, an, ct, osl, rfl, lk, hcd⟩ := T.ex
  exact fnd_of lk hcd S len body
end
theorem extn_tk {H H' : Hp} (h : ExtN H H') : TK H H' := fun p xs e => h p _ e fun ps z => by cases z
theorem extn_same {H H' : Hp} (h : Same H H') : ExtN H H' := fun b o e _ => h b o e
theorem extn_lst {b : Addr} {H H' : Hp} {xs : List V} (h : ExtN H H') (e : H b = some (.lst xs)) : H' b = some (.lst xs) := h b _ e fun ps z => by cases z
theorem extn_dK {b : Addr} {H H' : Hp} {xs : List (Key × V)} (h : ExtN H H') (e : H b = some (.dK xs)) : H' b = some (.dK xs) := h b _ e fun ps z => by cases z
theorem extn_over {H H' : Hp} {W : Addr} {o : HO} (h : ExtN H H') (n : H W = none) : ExtN H (upd H' W o) := fun b u e m => by
  rw [upd_ne fun z => by rw [z, n] at e; cases e]
  exact h b u e m
theorem tabs_but {T : List (Addr × Str)} {H H' : Hp} {a : Addr} {o0 : HO} (t : Tabs T H) (e : H a = some o0) (n1 : ∀ ps, o0 ≠ .tbl ps) (n2 : ∀ c q, o0 ≠ CodeO c q) (k : ∀ b o, H b = some o → b ≠ a → H' b = some o) : Tabs T H' := fun p hp => by
  obtain ⟨ps, h1, h2, h3⟩ := t p hp
  refine ⟨ps, k _ _ h1 fun z => ?_, h2, fun pos cv hc => ?_⟩
  · rw [z, e] at h1
    exact n1 ps (Option.some.inj h1)
  · obtain ⟨c, e1, e2⟩ := h3 pos cv hc
    refine ⟨c, e1, k _ _ e2 fun z => ?_⟩
    rw [z, e] at e2
    exact n2 _ _ (Option.some.inj e2)
theorem tabs_lst {T : List (Addr × Str)} {H : Hp} {a : Addr} {xs : List V} {o : HO} (t : Tabs T H) (e : H a = some (.lst xs)) : Tabs T (upd H a o) := tabs_but t e (fun ps z => by cases z) (fun c q z => by cases z) fun b u h n => by rw [upd_ne n]; exact h
theorem DsAt.split {H : Hp} {ts rs : List D} : ∀ {us : List V}, DsAt H us (ts ++ rs) → DsAt H (us.take ts.length) ts ∧ DsAt H (us.drop ts.length) rs := by
  induction ts with
  | nil => intro us h; exact ⟨.nil, h⟩
  | cons t ts ih =>
    intro us h
    cases h with
    | cons h1 h2 =>
      obtain ⟨a, b⟩ := ih h2
      exact ⟨.cons h1 a, b⟩
section
variable {P : Program} {w : World} {K : Frag} {mg : Str → Option Value} {base : Heap}
def spNodeG (T : List (Addr × Str)) (pt : D → List D) (Ok : D → Prop) (H0 : Hp) (fo : D → D) : Sp := fun vs H Q _ => ∃ x u L us, vs = [x, .ref L] ∧ ExtN H0 H ∧ Tabs T H ∧ DAt H x u ∧ Ok u ∧ H L = some (.lst us) ∧ DsAt H us ((pt u).map fo) ∧ ∀ v' H', ExtN H H' → Tabs T H' → DAt H' v' (fo u) → Q v' H'
def spFIG (P : Program) (w : World) (K : Frag) (mg : Str → Option Value) (base : Heap) (m : Nat) (T : List (Addr × Str)) (pt nd : D → List D) (Dm : D → Prop) (fp : Addr) (D' : Pins) : Sp := fun vs H Q _ => ∃ v d f3 fo EX Ok H0, vs = [v, .ref fp, .ref f3] ∧ ExtN H0 H ∧ Tabs T H ∧ DAt H v d ∧ Dm d ∧ d.size ≤ 1000000 ∧ (∀ u ∈ nd d, Ok u) ∧
  Callee P w K mg base m f3 (spNodeG T pt Ok H0 fo) D' EX ∧ ExOk EX H ∧ (∀ p ∈ EX, ∀ ps, p.2 ≠ HO.tbl ps) ∧ ∀ v' H', ExtN H H' → Tabs T H' → DAt H' v' (fo d) → Q v' H'
end
end Q4

namespace Q4
open PySem PySem.Spec PyProof.Rows L2 NdefX LamX KT
open PySem.W (Frag)
/-! ### types as trees -/
def Ty.nds : Ty → List Ty
  | .w z => [.w z]
  | .n g a b => .n g a b :: (b.nds ++ a.nds)
def kp : D → List D
  | .t [_, a, b] => [a, b]
  | _ => []
def kn (u : D) : List D := match u.ty with
  | some t => t.nds.map Ty.d
  | none => [u]
def IsTy (u : D) : Prop := ∃ t : Ty, t.wok ∧ u = t.d
theorem kn_d {t : Ty} (h : t.wok) : kn t.d = t.nds.map Ty.d := by unfold kn; rw [t.ty_d h]
theorem treeK : Tree kp kn IsTy := by
  refine ⟨?_, ?_, ?_⟩
  · rintro u ⟨t, h, rfl⟩
    cases t with
    | w z => rw [kn_d h]; rfl
    | n g a b =>
      rw [kn_d h]
      show _ = _ :: (kn b.d ++ (kn a.d ++ []))
      rw [kn_d h.1, kn_d h.2]
      simp [Ty.nds]
  · rintro u ⟨t, h, rfl⟩
    cases t with
    | w z => exact ⟨by simp [Ty.d, kp, sizeAll, D.size], by simp [Ty.d, kp]⟩
    | n g a b => exact ⟨by simp only [Ty.d, kp, sizeAll, D.size]; omega, by simp [Ty.d, kp]⟩
  · rintro u ⟨t, h, rfl⟩ p hp
    cases t with
    | w z => simp [Ty.d, kp] at hp
    | n g a b =>
      simp only [Ty.d, kp, List.mem_cons, List.not_mem_nil, or_false] at hp
      rcases hp with rfl | rfl
      · exact ⟨a, h.1, rfl⟩
      · exact ⟨b, h.2, rfl⟩
def Ty.fold (f : Str → D) (g : Sg → D → D → D) : Ty → D
  | .w z => f z
  | .n s a b => g s (a.fold f g) (b.fold f g)
def foK (f : Str → D) (g : Sg → D → D → D) (u : D) : D := match u.ty with
  | some t => t.fold f g
  | none => u
theorem foK_d {f : Str → D} {g : Sg → D → D → D} {t : Ty} (h : t.wok) : foK f g t.d = t.fold f g := by unfold foK; rw [t.ty_d h]
/-- the tables of code objects -/
structure Tb1 (base : Heap) (mg : Str → Option Value) (T : List (Addr × Str)) (c PX : Addr) (q : Str) : Prop where
  b : TabB base mg c PX
  m : (PX, q) ∈ T
  u : ∀ p ∈ T, p.1 = PX → p.2 = q
abbrev toN (T : List (Addr × Str)) : List NTab := T.map fun p => (p.1, fun _ _ => p.2)
theorem tabsN_of {T : List (Addr × Str)} {H : Hp} (h : Tabs T H) : TabsN (toN T) H := fun q hq => by
  obtain ⟨p, hp, rfl⟩ := List.mem_map.mp hq
  exact TabN.of (h p hp)
theorem tabs_of {T : List (Addr × Str)} {H : Hp} (h : TabsN (toN T) H) : Tabs T H := fun p hp => TabN.to (h (p.1, fun _ _ => p.2) (List.mem_map.mpr ⟨p, hp, rfl⟩))
theorem Tb1.mN {base : Heap} {mg : Str → Option Value} {T : List (Addr × Str)} {c PX : Addr} {q : Str} (t : Tb1 base mg T c PX q) : (PX, fun (_ _ : Nat) => q) ∈ toN T := List.mem_map.mpr ⟨_, t.m, rfl⟩
theorem Tb1.uN {base : Heap} {mg : Str → Option Value} {T : List (Addr × Str)} {c PX : Addr} {q : Str} (t : Tb1 base mg T c PX q) : ∀ p ∈ toN T, p.1 = PX → p.2 = fun _ _ => q := by
  intro r hr e
  obtain ⟨p, hp, rfl⟩ := List.mem_map.mp hr
  show (fun _ _ => p.2) = _
  rw [t.u p hp e]
abbrev nAtPart : List Str := ["part", "came", "at_plain", "at_signed"]
section
variable {P : Program} {w : World} {K : Frag} {mg : Str → Option Value} {base : Heap} {T : List (Addr × Str)} {cF PF : Addr}
def spPl (T : List (Addr × Str)) (W : Str → Prop) (H0 : Hp) (f : Str → D) : Sp := fun vs H Q _ => ∃ z, vs = [.str z] ∧ ExtN H0 H ∧ Tabs T H ∧ W z ∧ IsW z ∧ ∀ v' H', ExtN H H' → Tabs T H' → DAt H' v' (f z) → Q v' H'
def spSg (T : List (Addr × Str)) (g : Sg → D → D → D) : Sp := fun vs H Q _ => ∃ s x y a b, vs = [.str (Sg.str s), x, y] ∧ Tabs T H ∧ DAt H x a ∧ DAt H y b ∧ ∀ v' H', ExtN H H' → Tabs T H' → DAt H' v' (g s a b) → Q v' H'
def OkW (W : Str → Prop) (u : D) : Prop := IsTy u ∧ ∀ z, u = .s z → W z
def spFolded (P : Program) (w : World) (K : Frag) (mg : Str → Option Value) (base : Heap) (T : List (Addr × Str)) (DD : Pins) : Sp := fun vs H Q _ => ∃ v t f1 f2 pl sg EX W H0, vs = [v, .ref f1, .ref f2] ∧ ExtN H0 H ∧ (∀ z ∈ t.words, W z) ∧ TyAt H v t ∧ t.d.size ≤ 1000000 ∧
  Callee P w K mg base 2 f1 (spPl T W H0 pl) DD EX ∧ Callee P w K mg base 2 f2 (spSg T sg) DD EX ∧ ExOk EX H ∧ (∀ p ∈ EX, ∀ ps, p.2 ≠ HO.tbl ps) ∧ Tabs T H ∧
  ∀ v' H', ExtN H H' → Tabs T H' → DAt H' v' (t.fold pl sg) → Q v' H'
theorem nds_words {z : Str} : ∀ {t : Ty}, D.s z ∈ t.nds.map Ty.d → z ∈ t.words
  | .w y, h => by
    simp only [Ty.nds, List.map_cons, List.map_nil, List.mem_cons, List.not_mem_nil, or_false, Ty.d, D.s.injEq] at h
    simp [Ty.words, h]
  | .n g a b, h => by
    simp only [Ty.nds, List.map_cons, List.map_append, List.mem_cons, List.mem_append, Ty.d, reduceCtorEq, false_or] at h
    simp only [Ty.words, List.mem_append]
    exact h.symm.imp nds_words nds_words
theorem nds_wok : ∀ {t : Ty}, t.wok → ∀ u ∈ t.nds.map Ty.d, IsTy u
  | .w y, h, u, hu => by
    simp only [Ty.nds, List.map_cons, List.map_nil, List.mem_cons, List.not_mem_nil, or_false] at hu
    exact ⟨_, h, hu⟩
  | .n g a b, h, u, hu => by
    simp only [Ty.nds, List.map_cons, List.map_append, List.mem_cons, List.mem_append] at hu
    rcases hu with hu | hu | hu
    · exact ⟨_, h, hu⟩
    · exact nds_wok h.2 u hu
    · exact nds_wok h.1 u hu
end
end Q4

namespace Q4
open PySem PySem.Spec PyProof.Rows L2 NdefX LamX KT
open PySem.W (Frag)
section
variable {P : Program} {w : World} {K : Frag} {mg : Str → Option Value} {base : Heap}
def spCheckKindT : Sp := fun vs H Q _ => ∃ v t, vs = [v] ∧ TyAt H v t ∧ t.d.dep ≤ 60 ∧ t.d.size ≤ 1000000 ∧ ∀ H', Same H H' → Q .non H'
theorem isKd_d {t : Ty} (h : t.wok) : t.d.isKd = true := by
  unfold D.isKd
  rw [t.ty_d h]
  rfl
theorem ok_checkKindT {f fi : Addr} {fd fdi : FuncData} (T : Top K mg "check_kind" sCheckKind pCheckKind f fd) (TI : Top K mg "is_kind" sIsKind pIsKind fi fdi) (GI : FnOk P w K mg base CX0 2 fi fdi pIsKind spIsKindD) : FnOk P w K mg base CX0 3 f fd pCheckKind spCheckKindT := by
  refine T.F.ok scCheckKind (fun vs H Q E h => ?_) (fun cdv A outer s H vs Q E hr h => ?_)
  · obtain ⟨_, _, rfl, _⟩ := h
    rfl
  · obtain ⟨v, t, rfl, ht, hd, hz, k⟩ := h
    refine ⟨_, pss_one (ps_if (pt_not (pt_val (pe_call GI hr rfl TI.g TI.F.kp TI.b .nil pass0 (pa_cons (pv 0) pa_nil)))) pss_never pss_nil), ?_⟩
    refine ⟨v, rfl, v, t.d, rfl, ht.d, hd, hz, fun H' s' => ⟨_, rfl, ?_⟩⟩
    rw [isKd_d ht.wok]
    exact iteF (k H' s')
/-- a row -/
def RowAt (H : Hp) (L : Addr) (ts : List Ty) : Prop := ∃ us, H L = some (.lst us) ∧ Tys H us ts
def RowOk (ts : List Ty) : Prop := ts.length ≤ 4000 ∧ ∀ t ∈ ts, t.d.dep ≤ 60 ∧ t.d.size ≤ 1000000
def spAreKinds : Sp := fun vs H Q _ => ∃ L ts, vs = [.ref L] ∧ RowAt H L ts ∧ RowOk ts ∧ ∀ H', Same H H' → Q (.bl true) H'
def spCheckRow : Sp := fun vs H Q _ => ∃ L ts, vs = [.ref L] ∧ RowAt H L ts ∧ RowOk ts ∧ ts ≠ [] ∧ ∀ H', Same H H' → Q .non H'
def spIsRow : Sp := fun vs H Q _ => ∃ L ts, vs = [.ref L] ∧ RowAt H L ts ∧ RowOk ts ∧ ts ≠ [] ∧ ∀ H', Same H H' → Q (.bl true) H'
theorem RowAt.same {H H' : Hp} {L : Addr} {ts : List Ty} (h : RowAt H L ts) (s : Same H H') : RowAt H' L ts := by
  obtain ⟨us, e, hT⟩ := h
  exact ⟨us, s _ _ e, hT.mono (TK.of_same s)⟩
end
theorem tx_sg (g : Sg) : TxtOk g.str := by cases g <;> exact ⟨by decide +kernel, by decide +kernel⟩
theorem nds_size : ∀ (t : Ty) (u : D), u ∈ t.nds.map Ty.d → u.size ≤ t.d.size
  | .w y, u, h => by
    simp only [Ty.nds, List.map_cons, List.map_nil, List.mem_cons, List.not_mem_nil, or_false] at h
    rw [h]
    exact Nat.le_refl _
  | .n g a b, u, h => by
    simp only [Ty.nds, List.map_cons, List.map_append, List.mem_cons, List.mem_append] at h
    simp only [Ty.d, D.size, sizeAll]
    rcases h with h | h | h
    · rw [h]; simp only [Ty.d, D.size, sizeAll]; omega
    · have := nds_size b u h; omega
    · have := nds_size a u h; omega
end Q4

namespace Q4
open PySem PySem.Spec PyProof.Rows L2 LamX KT
open PySem.W (Frag)
section
variable {P : Program} {w : World} {K : Frag} {mg : Str → Option Value} {base : Heap}
/-- a step known by name, asked as one of the cases -/
def spN (j : Int) (n : Nat) : Sp := fun vs H Q _ => ∃ ds d row goal, vs.length = n ∧ DsAt H vs ds ∧ Case j ds d row goal ∧ (∀ e ∈ ds, e.dep ≤ 60 ∧ e.size ≤ 1000000) ∧ ∀ v' H', Same H H' → DAt H' v' d → Q v' H'
theorem dsAt1 {H : Hp} {vs : List V} {d : D} (h : DsAt H vs [d]) : ∃ v, vs = [v] ∧ DAt H v d := by
  cases h with
  | cons a h => cases h; exact ⟨_, rfl, a⟩
theorem dsAt2 {H : Hp} {vs : List V} {d e : D} (h : DsAt H vs [d, e]) : ∃ v u, vs = [v, u] ∧ DAt H v d ∧ DAt H u e := by
  cases h with
  | cons a h => obtain ⟨u, rfl, b⟩ := dsAt1 h; exact ⟨_, _, rfl, a, b⟩
theorem dsAt3 {H : Hp} {vs : List V} {d e f : D} (h : DsAt H vs [d, e, f]) : ∃ v u x, vs = [v, u, x] ∧ DAt H v d ∧ DAt H u e ∧ DAt H x f := by
  cases h with
  | cons a h => obtain ⟨u, x, rfl, b, c⟩ := dsAt2 h; exact ⟨_, _, _, rfl, a, b, c⟩
theorem tyN {H : Hp} {v : V} {g : Sg} {a b : Ty} (h : TyAt H v (.n g a b)) : ∃ p x y, v = .ref p ∧ H p = some (.tup [.str g.str, x, y]) ∧ TyAt H x a ∧ TyAt H y b := by
  cases h with
  | n e h1 h2 => exact ⟨_, _, _, rfl, e, h1, h2⟩
theorem ok_raising {f fc fh fO fU : Addr} {fd fdc fdh fdO fdU : FuncData} (T : Top K mg "raising" sRaising pRaising f fd) (TC : Top K mg "check_kind" sCheckKind pCheckKind fc fdc) (TH : Top K mg "has_sign" sHasSign pHasSign fh fdh) (TO : Top K mg "_over" sOver pOver fO fdO) (TU : Top K mg "_under" sUnder pUnder fU fdU)
    (GC : FnOk P w K mg base CX0 3 fc fdc pCheckKind spCheckKindT) (GH : FnOk P w K mg base CX0 1 fh fdh pHasSign spHasSign) (GO : FnOk P w K mg base CX0 1 fO fdO pOver (spR 2 ROv)) (GU : FnOk P w K mg base CX0 1 fU fdU pUnder (spR 2 RUn)) : FnOk P w K mg base CX0 4 f fd pRaising (spN 0 3) := by
  refine T.F.ok scRaising (fun vs H Q E h => ?_) (fun cdv A outer s H vs Q E hr h => ?_)
  · obtain ⟨_, _, _, _, l, _⟩ := h
    exact l
  · obtain ⟨_, _, _, _, _, hd, hc, hs, q⟩ := h
    have hr1 : Room 1 _ := hr.mono (by decide)
    have hr2 : Room 2 _ := hr.mono (by decide)
    cases hc with
    | @r0 a b h1 h2 =>
      obtain ⟨v1, v2, v3, rfl, d1, d2, d3⟩ := dsAt3 hd
      cases d3
      have t1 := d1.ty (a.ty_d h1)
      have t2 := d2.ty (b.ty_d h2)
      obtain ⟨p1, z1⟩ := hs a.d (by simp)
      obtain ⟨p2, z2⟩ := hs b.d (by simp)
      refine ⟨_, (pss_cons (ps_expr (pe_call GC hr rfl TC.g TC.F.kp TC.b .nil pass0 (pa_cons (pv 0) pa_nil)))
      (pss_cons (ps_expr (pe_call GC hr rfl TC.g TC.F.kp TC.b .nil pass0 (pa_cons (pv 1) pa_nil)))
      (pss_cons (ps_if (pt_cmpR op_eq (pv 2) pe_str (nomark _)) (pss_one (ps_ret (pe_tup (pa_cons pe_str (pa_cons (pe_call GU hr1 rfl TU.g TU.F.kp TU.b .nil pass0 (pa_cons (pe_tup (pa_cons pe_str (pa_cons (pv 1) pa_nil))) (pa_cons (pv 0) pa_nil))) pa_nil))))) pss_nil)
      (pss_cons (ps_if (pt_cmpR op_eq (pv 2) pe_str (nomark _)) (pss_one (ps_ret (pe_tup (pa_cons pe_str (pa_cons (pe_call GO hr1 rfl TO.g TO.F.kp TO.b .nil pass0 (pa_cons (pe_tup (pa_cons pe_str (pa_cons (pv 1) pa_nil))) (pa_cons (pv 0) pa_nil))) pa_nil))))) pss_nil)
      pss_never)))), ?_⟩
      refine ⟨v1, rfl, v1, a, rfl, t1, p1, z1, fun H1 s1 => ⟨v2, rfl, v2, b, rfl, t2.mono (TK.of_same s1), p2, z2, fun H2 s2 => ?_⟩⟩
      have s12 := s1.trans s2
      refine ⟨_, rfl, rfl, true, congrArg V.bl (decide_eq_true rfl), iteT ?_⟩
      exact yd_ret (yt2 (txtIs _ (by simp)) (yd_spR (yda2 (yt2 (txtIs _ (by simp)) (yd_var (by rfl) (d2.mono (TK.of_same s12)))) (yd_var (by rfl) (d1.mono (TK.of_same s12)))) rfl ⟨_, _, rfl, rfl⟩)) (Same.refl H2) fun v' H' s' h' => q v' H' (s12.trans s') h'
    | @r1 a b h1 h2 =>
      obtain ⟨v1, v2, v3, rfl, d1, d2, d3⟩ := dsAt3 hd
      cases d3
      have t1 := d1.ty (a.ty_d h1)
      have t2 := d2.ty (b.ty_d h2)
      obtain ⟨p1, z1⟩ := hs a.d (by simp)
      obtain ⟨p2, z2⟩ := hs b.d (by simp)
      refine ⟨_, (pss_cons (ps_expr (pe_call GC hr rfl TC.g TC.F.kp TC.b .nil pass0 (pa_cons (pv 0) pa_nil)))
      (pss_cons (ps_expr (pe_call GC hr rfl TC.g TC.F.kp TC.b .nil pass0 (pa_cons (pv 1) pa_nil)))
      (pss_cons (ps_if (pt_cmpR op_eq (pv 2) pe_str (nomark _)) (pss_one (ps_ret (pe_tup (pa_cons pe_str (pa_cons (pe_call GU hr1 rfl TU.g TU.F.kp TU.b .nil pass0 (pa_cons (pe_tup (pa_cons pe_str (pa_cons (pv 1) pa_nil))) (pa_cons (pv 0) pa_nil))) pa_nil))))) pss_nil)
      (pss_cons (ps_if (pt_cmpR op_eq (pv 2) pe_str (nomark _)) (pss_one (ps_ret (pe_tup (pa_cons pe_str (pa_cons (pe_call GO hr1 rfl TO.g TO.F.kp TO.b .nil pass0 (pa_cons (pe_tup (pa_cons pe_str (pa_cons (pv 1) pa_nil))) (pa_cons (pv 0) pa_nil))) pa_nil))))) pss_nil)
      pss_never)))), ?_⟩
      refine ⟨v1, rfl, v1, a, rfl, t1, p1, z1, fun H1 s1 => ⟨v2, rfl, v2, b, rfl, t2.mono (TK.of_same s1), p2, z2, fun H2 s2 => ?_⟩⟩
      have s12 := s1.trans s2
      refine ⟨_, rfl, rfl, false, congrArg V.bl (decide_eq_false (by decide)), iteF ⟨_, rfl, rfl, true, congrArg V.bl (decide_eq_true rfl), iteT ?_⟩⟩
      exact yd_ret (yt2 (txtIs _ (by simp)) (yd_spR (yda2 (yt2 (txtIs _ (by simp)) (yd_var (by rfl) (d2.mono (TK.of_same s12)))) (yd_var (by rfl) (d1.mono (TK.of_same s12)))) rfl ⟨_, _, rfl, rfl⟩)) (Same.refl H2) fun v' H' s' h' => q v' H' (s12.trans s') h'
theorem ok_composing {f fc fh fCO fCU : Addr} {fd fdc fdh fdCO fdCU : FuncData} (T : Top K mg "composing" sComposing pComposing f fd) (TC : Top K mg "check_kind" sCheckKind pCheckKind fc fdc) (TH : Top K mg "has_sign" sHasSign pHasSign fh fdh) (TCO : Top K mg "_composed_over" sComposedOver pComposedOver fCO fdCO) (TCU : Top K mg "_composed_under" sComposedUnder pComposedUnder fCU fdCU)
    (GC : FnOk P w K mg base CX0 3 fc fdc pCheckKind spCheckKindT) (GH : FnOk P w K mg base CX0 1 fh fdh pHasSign spHasSign) (GCO : FnOk P w K mg base CX0 2 fCO fdCO pComposedOver (spR 3 RCO)) (GCU : FnOk P w K mg base CX0 2 fCU fdCU pComposedUnder (spR 3 RCU)) : FnOk P w K mg base CX0 4 f fd pComposing (spN 1 2) := by
  refine T.F.ok scComposing (fun vs H Q E h => ?_) (fun cdv A outer s H vs Q E hr h => ?_)
  · obtain ⟨_, _, _, _, l, _⟩ := h
    exact l
  · obtain ⟨_, _, _, _, _, hd, hc, hs, q⟩ := h
    have hr1 : Room 1 _ := hr.mono (by decide)
    have hr2 : Room 2 _ := hr.mono (by decide)
    cases hc with
    | @c0 a b c h1 h2 h3 =>
      obtain ⟨v1, v2, rfl, d1, d2⟩ := dsAt2 hd
      have t1 : TyAt H v1 (.n .ov a b) := d1.ty (Ty.ty_d _ ⟨h1, h2⟩)
      obtain ⟨p1, z1⟩ := hs (Ty.d (.n .ov a b)) (by simp)
      have t2 : TyAt H v2 (.n .ov b c) := d2.ty (Ty.ty_d _ ⟨h2, h3⟩)
      obtain ⟨p2, z2⟩ := hs (Ty.d (.n .ov b c)) (by simp)
      refine ⟨_, (pss_cons (ps_expr (pe_call GC hr rfl TC.g TC.F.kp TC.b .nil pass0 (pa_cons (pv 0) pa_nil)))
      (pss_cons (ps_expr (pe_call GC hr rfl TC.g TC.F.kp TC.b .nil pass0 (pa_cons (pv 1) pa_nil)))
      (pss_cons (ps_if (PW.pt (pw_and (pt_val (pe_call GH hr1 rfl TH.g TH.F.kp TH.b .nil pass0 (pa_cons (pv 0) (pa_cons pe_str pa_nil)))) (pw_and (pt_val (pe_call GH hr1 rfl TH.g TH.F.kp TH.b .nil pass0 (pa_cons (pv 1) (pa_cons pe_str pa_nil)))) (pw_and1 (pt_cmpR (op_eqD (hu64 hr)) (pe_ix ix_tup (pv 0) pe_int (fun _ _ => rfl)) (pe_ix ix_tup (pv 1) pe_int (fun _ _ => rfl)) (nomark _)))))) (pss_one (ps_ret (pe_tup (pa_cons pe_str (pa_cons (pe_call GCO hr2 rfl TCO.g TCO.F.kp TCO.b .nil pass0 (pa_cons (pe_ix ix_tup (pv 0) pe_int (fun _ _ => rfl)) (pa_cons (pe_ix ix_tup (pv 0) pe_int (fun _ _ => rfl)) (pa_cons (pe_ix ix_tup (pv 1) pe_int (fun _ _ => rfl)) pa_nil)))) pa_nil))))) pss_nil)
      (pss_cons (ps_if (PW.pt (pw_and (pt_val (pe_call GH hr1 rfl TH.g TH.F.kp TH.b .nil pass0 (pa_cons (pv 0) (pa_cons pe_str pa_nil)))) (pw_and (pt_val (pe_call GH hr1 rfl TH.g TH.F.kp TH.b .nil pass0 (pa_cons (pv 1) (pa_cons pe_str pa_nil)))) (pw_and1 (pt_cmpR (op_eqD (hu64 hr)) (pe_ix ix_tup (pv 0) pe_int (fun _ _ => rfl)) (pe_ix ix_tup (pv 1) pe_int (fun _ _ => rfl)) (nomark _)))))) (pss_one (ps_ret (pe_tup (pa_cons pe_str (pa_cons (pe_call GCU hr2 rfl TCU.g TCU.F.kp TCU.b .nil pass0 (pa_cons (pe_ix ix_tup (pv 0) pe_int (fun _ _ => rfl)) (pa_cons (pe_ix ix_tup (pv 0) pe_int (fun _ _ => rfl)) (pa_cons (pe_ix ix_tup (pv 1) pe_int (fun _ _ => rfl)) pa_nil)))) pa_nil))))) pss_nil)
      pss_never)))), ?_⟩
      refine ⟨v1, rfl, v1, _, rfl, t1, p1, z1, fun H1 s1 => ⟨v2, rfl, v2, _, rfl, t2.mono (TK.of_same s1), p2, z2, fun H2 s2 => ?_⟩⟩
      have s12 := s1.trans s2
      have t1 := t1.mono (TK.of_same s12)
      have t2 := t2.mono (TK.of_same s12)
      clear d1 d2
      refine ⟨_, rfl, v1, _, .ov, rfl, t1, true, rfl, iteT ⟨_, rfl, v2, _, .ov, rfl, t2, true, rfl, iteT ?_⟩⟩
      obtain ⟨q1, x, y, rfl, e1, hx, hy⟩ := tyN t1
      obtain ⟨q2, y', z, rfl, e2, hy', hz⟩ := tyN t2
      have pb : b.d.dep ≤ 60 := by simp only [dep_n] at p1; omega
      obtain ⟨A1, A2⟩ := ty_dp (K := K) hy pb
      obtain ⟨B1, B2⟩ := ty_dp (K := K) hy' pb
      refine ⟨_, rfl, q1, _, _, _, rfl, rfl, SqT.of e1, atI_nat (j := 2) rfl, _, rfl, q2, _, _, _, rfl, rfl, SqT.of e2, atI_nat (j := 1) rfl, _, _, A1, B1, A2, B2, ?_⟩
      rw [eqv_ty, decide_eq_true rfl]
      refine ⟨_, rfl, iteT ?_⟩
      exact yd_ret (yt2 (txtIs _ (by simp)) (yd_spR (yda3 (yd_ixT (i := 1) (yd_var (by rfl) t1.d) rfl) (yd_ixT (i := 2) (yd_var (by rfl) t1.d) rfl) (yd_ixT (i := 2) (yd_var (by rfl) t2.d) rfl)) rfl ⟨a, b, c, rfl, rfl⟩)) (Same.refl H2) fun v' H' s' h' => q v' H' (s12.trans s') h'
    | @c1 a b c h1 h2 h3 =>
      obtain ⟨v1, v2, rfl, d1, d2⟩ := dsAt2 hd
      have t1 : TyAt H v1 (.n .un c b) := d1.ty (Ty.ty_d _ ⟨h3, h2⟩)
      obtain ⟨p1, z1⟩ := hs (Ty.d (.n .un c b)) (by simp)
      have t2 : TyAt H v2 (.n .un b a) := d2.ty (Ty.ty_d _ ⟨h2, h1⟩)
      obtain ⟨p2, z2⟩ := hs (Ty.d (.n .un b a)) (by simp)
      refine ⟨_, (pss_cons (ps_expr (pe_call GC hr rfl TC.g TC.F.kp TC.b .nil pass0 (pa_cons (pv 0) pa_nil)))
      (pss_cons (ps_expr (pe_call GC hr rfl TC.g TC.F.kp TC.b .nil pass0 (pa_cons (pv 1) pa_nil)))
      (pss_cons (ps_if (PW.pt (pw_and (pt_val (pe_call GH hr1 rfl TH.g TH.F.kp TH.b .nil pass0 (pa_cons (pv 0) (pa_cons pe_str pa_nil)))) (pw_and (pt_val (pe_call GH hr1 rfl TH.g TH.F.kp TH.b .nil pass0 (pa_cons (pv 1) (pa_cons pe_str pa_nil)))) (pw_and1 (pt_cmpR (op_eqD (hu64 hr)) (pe_ix ix_tup (pv 0) pe_int (fun _ _ => rfl)) (pe_ix ix_tup (pv 1) pe_int (fun _ _ => rfl)) (nomark _)))))) (pss_one (ps_ret (pe_tup (pa_cons pe_str (pa_cons (pe_call GCO hr2 rfl TCO.g TCO.F.kp TCO.b .nil pass0 (pa_cons (pe_ix ix_tup (pv 0) pe_int (fun _ _ => rfl)) (pa_cons (pe_ix ix_tup (pv 0) pe_int (fun _ _ => rfl)) (pa_cons (pe_ix ix_tup (pv 1) pe_int (fun _ _ => rfl)) pa_nil)))) pa_nil))))) pss_nil)
      (pss_cons (ps_if (PW.pt (pw_and (pt_val (pe_call GH hr1 rfl TH.g TH.F.kp TH.b .nil pass0 (pa_cons (pv 0) (pa_cons pe_str pa_nil)))) (pw_and (pt_val (pe_call GH hr1 rfl TH.g TH.F.kp TH.b .nil pass0 (pa_cons (pv 1) (pa_cons pe_str pa_nil)))) (pw_and1 (pt_cmpR (op_eqD (hu64 hr)) (pe_ix ix_tup (pv 0) pe_int (fun _ _ => rfl)) (pe_ix ix_tup (pv 1) pe_int (fun _ _ => rfl)) (nomark _)))))) (pss_one (ps_ret (pe_tup (pa_cons pe_str (pa_cons (pe_call GCU hr2 rfl TCU.g TCU.F.kp TCU.b .nil pass0 (pa_cons (pe_ix ix_tup (pv 0) pe_int (fun _ _ => rfl)) (pa_cons (pe_ix ix_tup (pv 0) pe_int (fun _ _ => rfl)) (pa_cons (pe_ix ix_tup (pv 1) pe_int (fun _ _ => rfl)) pa_nil)))) pa_nil))))) pss_nil)
      pss_never)))), ?_⟩
      refine ⟨v1, rfl, v1, _, rfl, t1, p1, z1, fun H1 s1 => ⟨v2, rfl, v2, _, rfl, t2.mono (TK.of_same s1), p2, z2, fun H2 s2 => ?_⟩⟩
      have s12 := s1.trans s2
      have t1 := t1.mono (TK.of_same s12)
      have t2 := t2.mono (TK.of_same s12)
      clear d1 d2
      refine ⟨_, rfl, v1, _, .ov, rfl, t1, false, rfl, iteF (iteF ?_)⟩
      refine ⟨_, rfl, v1, _, .un, rfl, t1, true, rfl, iteT ⟨_, rfl, v2, _, .un, rfl, t2, true, rfl, iteT ?_⟩⟩
      obtain ⟨q1, x, y, rfl, e1, hx, hy⟩ := tyN t1
      obtain ⟨q2, y', z, rfl, e2, hy', hz⟩ := tyN t2
      have pb : b.d.dep ≤ 60 := by simp only [dep_n] at p1; omega
      obtain ⟨A1, A2⟩ := ty_dp (K := K) hy pb
      obtain ⟨B1, B2⟩ := ty_dp (K := K) hy' pb
      refine ⟨_, rfl, q1, _, _, _, rfl, rfl, SqT.of e1, atI_nat (j := 2) rfl, _, rfl, q2, _, _, _, rfl, rfl, SqT.of e2, atI_nat (j := 1) rfl, _, _, A1, B1, A2, B2, ?_⟩
      rw [eqv_ty, decide_eq_true rfl]
      refine ⟨_, rfl, iteT ?_⟩
      exact yd_ret (yt2 (txtIs _ (by simp)) (yd_spR (yda3 (yd_ixT (i := 1) (yd_var (by rfl) t1.d) rfl) (yd_ixT (i := 2) (yd_var (by rfl) t1.d) rfl) (yd_ixT (i := 2) (yd_var (by rfl) t2.d) rfl)) rfl ⟨a, b, c, rfl, rfl⟩)) (Same.refl H2) fun v' H' s' h' => q v' H' (s12.trans s') h'
theorem ok_dividing {f fc fh fCO fCU : Addr} {fd fdc fdh fdCO fdCU : FuncData} (T : Top K mg "dividing" sDividing pDividing f fd) (TC : Top K mg "check_kind" sCheckKind pCheckKind fc fdc) (TH : Top K mg "has_sign" sHasSign pHasSign fh fdh) (TCO : Top K mg "_composed_over" sComposedOver pComposedOver fCO fdCO) (TCU : Top K mg "_composed_under" sComposedUnder pComposedUnder fCU fdCU)
    (GC : FnOk P w K mg base CX0 3 fc fdc pCheckKind spCheckKindT) (GH : FnOk P w K mg base CX0 1 fh fdh pHasSign spHasSign) (GCO : FnOk P w K mg base CX0 2 fCO fdCO pComposedOver (spR 3 RCO)) (GCU : FnOk P w K mg base CX0 2 fCU fdCU pComposedUnder (spR 3 RCU)) : FnOk P w K mg base CX0 4 f fd pDividing (spN 2 2) := by
  refine T.F.ok scDividing (fun vs H Q E h => ?_) (fun cdv A outer s H vs Q E hr h => ?_)
  · obtain ⟨_, _, _, _, l, _⟩ := h
    exact l
  · obtain ⟨_, _, _, _, _, hd, hc, hs, q⟩ := h
    have hr1 : Room 1 _ := hr.mono (by decide)
    have hr2 : Room 2 _ := hr.mono (by decide)
    cases hc with
    | @d0 a b c h1 h2 h3 =>
      obtain ⟨v1, v2, rfl, d1, d2⟩ := dsAt2 hd
      have t1 : TyAt H v1 (.n .ov a b) := d1.ty (Ty.ty_d _ ⟨h1, h2⟩)
      obtain ⟨p1, z1⟩ := hs (Ty.d (.n .ov a b)) (by simp)
      have t2 : TyAt H v2 (c) := d2.ty (Ty.ty_d _ h3)
      obtain ⟨p2, z2⟩ := hs (Ty.d (c)) (by simp)
      refine ⟨_, (pss_cons (ps_expr (pe_call GC hr rfl TC.g TC.F.kp TC.b .nil pass0 (pa_cons (pv 0) pa_nil)))
      (pss_cons (ps_expr (pe_call GC hr rfl TC.g TC.F.kp TC.b .nil pass0 (pa_cons (pv 1) pa_nil)))
      (pss_cons (ps_if (pt_val (pe_call GH hr1 rfl TH.g TH.F.kp TH.b .nil pass0 (pa_cons (pv 0) (pa_cons pe_str pa_nil)))) (pss_one (ps_ret (pe_tup (pa_cons pe_str (pa_cons (pe_tup (pa_cons pe_str (pa_cons (pe_call GCO hr2 rfl TCO.g TCO.F.kp TCO.b .nil pass0 (pa_cons (pe_ix ix_tup (pv 0) pe_int (fun _ _ => rfl)) (pa_cons (pe_ix ix_tup (pv 0) pe_int (fun _ _ => rfl)) (pa_cons (pv 1) pa_nil)))) pa_nil))) pa_nil))))) pss_nil)
      (pss_cons (ps_if (pt_val (pe_call GH hr1 rfl TH.g TH.F.kp TH.b .nil pass0 (pa_cons (pv 0) (pa_cons pe_str pa_nil)))) (pss_one (ps_ret (pe_tup (pa_cons pe_str (pa_cons (pe_tup (pa_cons pe_str (pa_cons (pe_call GCU hr2 rfl TCU.g TCU.F.kp TCU.b .nil pass0 (pa_cons (pv 1) (pa_cons (pe_ix ix_tup (pv 0) pe_int (fun _ _ => rfl)) (pa_cons (pe_ix ix_tup (pv 0) pe_int (fun _ _ => rfl)) pa_nil)))) pa_nil))) pa_nil))))) pss_nil)
      pss_never)))), ?_⟩
      refine ⟨v1, rfl, v1, _, rfl, t1, p1, z1, fun H1 s1 => ⟨v2, rfl, v2, _, rfl, t2.mono (TK.of_same s1), p2, z2, fun H2 s2 => ?_⟩⟩
      have s12 := s1.trans s2
      have t1 := t1.mono (TK.of_same s12)
      have t2 := t2.mono (TK.of_same s12)
      clear d1 d2
      refine ⟨_, rfl, v1, _, .ov, rfl, t1, true, rfl, iteT ?_⟩
      exact yd_ret (yt2 (txtIs _ (by simp)) (yt2 (txtIs _ (by simp)) (yd_spR (yda3 (yd_ixT (i := 1) (yd_var (by rfl) t1.d) rfl) (yd_ixT (i := 2) (yd_var (by rfl) t1.d) rfl) (yd_var (by rfl) t2.d)) rfl ⟨a, b, c, rfl, rfl⟩))) (Same.refl H2) fun v' H' s' h' => q v' H' (s12.trans s') h'
    | @d1 a b c h1 h2 h3 =>
      obtain ⟨v1, v2, rfl, d1, d2⟩ := dsAt2 hd
      have t1 : TyAt H v1 (.n .un b a) := d1.ty (Ty.ty_d _ ⟨h2, h1⟩)
      obtain ⟨p1, z1⟩ := hs (Ty.d (.n .un b a)) (by simp)
      have t2 : TyAt H v2 (c) := d2.ty (Ty.ty_d _ h3)
      obtain ⟨p2, z2⟩ := hs (Ty.d (c)) (by simp)
      refine ⟨_, (pss_cons (ps_expr (pe_call GC hr rfl TC.g TC.F.kp TC.b .nil pass0 (pa_cons (pv 0) pa_nil)))
      (pss_cons (ps_expr (pe_call GC hr rfl TC.g TC.F.kp TC.b .nil pass0 (pa_cons (pv 1) pa_nil)))
      (pss_cons (ps_if (pt_val (pe_call GH hr1 rfl TH.g TH.F.kp TH.b .nil pass0 (pa_cons (pv 0) (pa_cons pe_str pa_nil)))) (pss_one (ps_ret (pe_tup (pa_cons pe_str (pa_cons (pe_tup (pa_cons pe_str (pa_cons (pe_call GCO hr2 rfl TCO.g TCO.F.kp TCO.b .nil pass0 (pa_cons (pe_ix ix_tup (pv 0) pe_int (fun _ _ => rfl)) (pa_cons (pe_ix ix_tup (pv 0) pe_int (fun _ _ => rfl)) (pa_cons (pv 1) pa_nil)))) pa_nil))) pa_nil))))) pss_nil)
      (pss_cons (ps_if (pt_val (pe_call GH hr1 rfl TH.g TH.F.kp TH.b .nil pass0 (pa_cons (pv 0) (pa_cons pe_str pa_nil)))) (pss_one (ps_ret (pe_tup (pa_cons pe_str (pa_cons (pe_tup (pa_cons pe_str (pa_cons (pe_call GCU hr2 rfl TCU.g TCU.F.kp TCU.b .nil pass0 (pa_cons (pv 1) (pa_cons (pe_ix ix_tup (pv 0) pe_int (fun _ _ => rfl)) (pa_cons (pe_ix ix_tup (pv 0) pe_int (fun _ _ => rfl)) pa_nil)))) pa_nil))) pa_nil))))) pss_nil)
      pss_never)))), ?_⟩
      refine ⟨v1, rfl, v1, _, rfl, t1, p1, z1, fun H1 s1 => ⟨v2, rfl, v2, _, rfl, t2.mono (TK.of_same s1), p2, z2, fun H2 s2 => ?_⟩⟩
      have s12 := s1.trans s2
      have t1 := t1.mono (TK.of_same s12)
      have t2 := t2.mono (TK.of_same s12)
      clear d1 d2
      refine ⟨_, rfl, v1, _, .ov, rfl, t1, false, rfl, iteF ?_⟩
      refine ⟨_, rfl, v1, _, .un, rfl, t1, true, rfl, iteT ?_⟩
      exact yd_ret (yt2 (txtIs _ (by simp)) (yt2 (txtIs _ (by simp)) (yd_spR (yda3 (yd_var (by rfl) t2.d) (yd_ixT (i := 1) (yd_var (by rfl) t1.d) rfl) (yd_ixT (i := 2) (yd_var (by rfl) t1.d) rfl)) rfl ⟨a, b, c, rfl, rfl⟩))) (Same.refl H2) fun v' H' s' h' => q v' H' (s12.trans s') h'
theorem ok_swapping {f fc fh fO fU : Addr} {fd fdc fdh fdO fdU : FuncData} (T : Top K mg "swapping" sSwapping pSwapping f fd) (TC : Top K mg "check_kind" sCheckKind pCheckKind fc fdc) (TH : Top K mg "has_sign" sHasSign pHasSign fh fdh) (TO : Top K mg "_over" sOver pOver fO fdO) (TU : Top K mg "_under" sUnder pUnder fU fdU)
    (GC : FnOk P w K mg base CX0 3 fc fdc pCheckKind spCheckKindT) (GH : FnOk P w K mg base CX0 1 fh fdh pHasSign spHasSign) (GO : FnOk P w K mg base CX0 1 fO fdO pOver (spR 2 ROv)) (GU : FnOk P w K mg base CX0 1 fU fdU pUnder (spR 2 RUn)) : FnOk P w K mg base CX0 4 f fd pSwapping (spN 3 1) := by
  refine T.F.ok scSwapping (fun vs H Q E h => ?_) (fun cdv A outer s H vs Q E hr h => ?_)
  · obtain ⟨_, _, _, _, l, _⟩ := h
    exact l
  · obtain ⟨_, _, _, _, _, hd, hc, hs, q⟩ := h
    have hr1 : Room 1 _ := hr.mono (by decide)
    have hr2 : Room 2 _ := hr.mono (by decide)
    cases hc with
    | @s0 a b c h1 h2 h3 =>
      obtain ⟨v1, rfl, d1⟩ := dsAt1 hd
      have t1 : TyAt H v1 (.n .ov (.n .un b a) c) := d1.ty (Ty.ty_d _ ⟨⟨h2, h1⟩, h3⟩)
      obtain ⟨p1, z1⟩ := hs (Ty.d (.n .ov (.n .un b a) c)) (by simp)
      refine ⟨_, (pss_cons (ps_expr (pe_call GC hr rfl TC.g TC.F.kp TC.b .nil pass0 (pa_cons (pv 0) pa_nil)))
      (pss_cons (ps_if (PW.pt (pw_and (pt_val (pe_call GH hr1 rfl TH.g TH.F.kp TH.b .nil pass0 (pa_cons (pv 0) (pa_cons pe_str pa_nil)))) (pw_and1 (pt_val (pe_call GH hr1 rfl TH.g TH.F.kp TH.b .nil pass0 (pa_cons (pe_ix ix_tup (pv 0) pe_int (fun _ _ => rfl)) (pa_cons pe_str pa_nil))))))) (pss_cons (ps_asg (pv 0) (pg_tup (by rfl) (pgs_cons (pg_name (i := 1) scSwapping.nd rfl (Or.inl rfl)) (pgs_cons (pg_tup (by rfl) (pgs_cons (pg_name (i := 1) scSwapping.nd rfl (Or.inl rfl)) (pgs_cons (pg_name (i := 2) scSwapping.nd rfl (Or.inl rfl)) (pgs_cons (pg_name (i := 3) scSwapping.nd rfl (Or.inl rfl)) pgs_nil)))) (pgs_cons (pg_name (i := 4) scSwapping.nd rfl (Or.inl rfl)) pgs_nil)))))
      (pss_cons (ps_set (i := 5) scSwapping.nd rfl (Or.inl rfl) (pe_tup (pa_cons pe_str (pa_cons pe_int (pa_cons (pe_tup (pa_cons pe_str (pa_cons (pv 4) pa_nil))) (pa_cons (pe_call GU hr1 rfl TU.g TU.F.kp TU.b .nil pass0 (pa_cons (pe_tup (pa_cons pe_str (pa_cons (pv 3) pa_nil))) (pa_cons (pv 2) pa_nil))) pa_nil))))))
      (pss_one (ps_ret (pe_tup (pa_cons pe_str (pa_cons (pe_tup (pa_cons pe_str (pa_cons (pv 5) pa_nil))) pa_nil))))))) pss_nil)
      (pss_cons (ps_if (PW.pt (pw_and (pt_val (pe_call GH hr1 rfl TH.g TH.F.kp TH.b .nil pass0 (pa_cons (pv 0) (pa_cons pe_str pa_nil)))) (pw_and1 (pt_val (pe_call GH hr1 rfl TH.g TH.F.kp TH.b .nil pass0 (pa_cons (pe_ix ix_tup (pv 0) pe_int (fun _ _ => rfl)) (pa_cons pe_str pa_nil))))))) (pss_cons (ps_asg (pv 0) (pg_tup (by rfl) (pgs_cons (pg_name (i := 1) scSwapping.nd rfl (Or.inl rfl)) (pgs_cons (pg_name (i := 2) scSwapping.nd rfl (Or.inl rfl)) (pgs_cons (pg_tup (by rfl) (pgs_cons (pg_name (i := 1) scSwapping.nd rfl (Or.inl rfl)) (pgs_cons (pg_name (i := 3) scSwapping.nd rfl (Or.inl rfl)) (pgs_cons (pg_name (i := 4) scSwapping.nd rfl (Or.inl rfl)) pgs_nil)))) pgs_nil)))))
      (pss_cons (ps_set (i := 5) scSwapping.nd rfl (Or.inl rfl) (pe_call GU hr1 rfl TU.g TU.F.kp TU.b .nil pass0 (pa_cons (pe_call GO hr1 rfl TO.g TO.F.kp TO.b .nil pass0 (pa_cons (pe_tup (pa_cons pe_str (pa_cons (pv 3) pa_nil))) (pa_cons (pv 4) pa_nil))) (pa_cons (pv 2) pa_nil))))
      (pss_one (ps_ret (pe_tup (pa_cons pe_str (pa_cons (pe_tup (pa_cons pe_str (pa_cons (pv 5) pa_nil))) pa_nil))))))) pss_nil)
      pss_never))), ?_⟩
      refine ⟨v1, rfl, v1, _, rfl, t1, p1, z1, fun H2 s12 => ?_⟩
      have t1 := t1.mono (TK.of_same s12)
      clear d1
      obtain ⟨q1, x, y, rfl, e1, hx, hy⟩ := tyN t1
      refine ⟨_, rfl, _, _, .ov, rfl, t1, true, rfl, iteT ⟨_, rfl, q1, _, _, _, rfl, rfl, SqT.of e1, atI_nat (j := 1) rfl, x, _, .un, rfl, hx, true, rfl, iteT ?_⟩⟩
      obtain ⟨q2, m1, m2, rfl, e2, hm1, hm2⟩ := tyN hx
      refine ⟨_, rfl, q1, _, rfl, SqT.of e1, rfl, _, _, rfl, _, _, rfl, q2, _, rfl, SqT.of e2, rfl, _, _, rfl, _, _, rfl, _, _, rfl, rfl, _, _, rfl, rfl, ?_⟩
      refine yd_set (d := .t [.s "over used", .i 1, isD c, unD b.d (isD a)]) (yt4 (d := .i 1) (txtIs _ (by simp)) yd_int (yt2 (txtIs _ (by simp)) (yd_var (by rfl) hy.d)) (yd_spR (yda2 (yt2 (txtIs _ (by simp)) (yd_var (by rfl) hm2.d)) (yd_var (by rfl) hm1.d)) rfl ⟨_, _, rfl, rfl⟩)) (Same.refl H2) fun u0 H3 s3 hu => ?_
      exact yd_ret (yt2 (txtIs _ (by simp)) (yt2 (txtIs _ (by simp)) (yd_var (by rfl) hu))) (Same.refl H3) fun v' H' s' h' => q v' H' ((s12.trans s3).trans s') h'
    | @s1 a b c h1 h2 h3 =>
      obtain ⟨v1, rfl, d1⟩ := dsAt1 hd
      have t1 : TyAt H v1 (.n .un b (.n .ov a c)) := d1.ty (Ty.ty_d _ ⟨h2, h1, h3⟩)
      obtain ⟨p1, z1⟩ := hs (Ty.d (.n .un b (.n .ov a c))) (by simp)
      refine ⟨_, (pss_cons (ps_expr (pe_call GC hr rfl TC.g TC.F.kp TC.b .nil pass0 (pa_cons (pv 0) pa_nil)))
      (pss_cons (ps_if (PW.pt (pw_and (pt_val (pe_call GH hr1 rfl TH.g TH.F.kp TH.b .nil pass0 (pa_cons (pv 0) (pa_cons pe_str pa_nil)))) (pw_and1 (pt_val (pe_call GH hr1 rfl TH.g TH.F.kp TH.b .nil pass0 (pa_cons (pe_ix ix_tup (pv 0) pe_int (fun _ _ => rfl)) (pa_cons pe_str pa_nil))))))) (pss_cons (ps_asg (pv 0) (pg_tup (by rfl) (pgs_cons (pg_name (i := 1) scSwapping.nd rfl (Or.inl rfl)) (pgs_cons (pg_tup (by rfl) (pgs_cons (pg_name (i := 1) scSwapping.nd rfl (Or.inl rfl)) (pgs_cons (pg_name (i := 2) scSwapping.nd rfl (Or.inl rfl)) (pgs_cons (pg_name (i := 3) scSwapping.nd rfl (Or.inl rfl)) pgs_nil)))) (pgs_cons (pg_name (i := 4) scSwapping.nd rfl (Or.inl rfl)) pgs_nil)))))
      (pss_cons (ps_set (i := 5) scSwapping.nd rfl (Or.inl rfl) (pe_tup (pa_cons pe_str (pa_cons pe_int (pa_cons (pe_tup (pa_cons pe_str (pa_cons (pv 4) pa_nil))) (pa_cons (pe_call GU hr1 rfl TU.g TU.F.kp TU.b .nil pass0 (pa_cons (pe_tup (pa_cons pe_str (pa_cons (pv 3) pa_nil))) (pa_cons (pv 2) pa_nil))) pa_nil))))))
      (pss_one (ps_ret (pe_tup (pa_cons pe_str (pa_cons (pe_tup (pa_cons pe_str (pa_cons (pv 5) pa_nil))) pa_nil))))))) pss_nil)
      (pss_cons (ps_if (PW.pt (pw_and (pt_val (pe_call GH hr1 rfl TH.g TH.F.kp TH.b .nil pass0 (pa_cons (pv 0) (pa_cons pe_str pa_nil)))) (pw_and1 (pt_val (pe_call GH hr1 rfl TH.g TH.F.kp TH.b .nil pass0 (pa_cons (pe_ix ix_tup (pv 0) pe_int (fun _ _ => rfl)) (pa_cons pe_str pa_nil))))))) (pss_cons (ps_asg (pv 0) (pg_tup (by rfl) (pgs_cons (pg_name (i := 1) scSwapping.nd rfl (Or.inl rfl)) (pgs_cons (pg_name (i := 2) scSwapping.nd rfl (Or.inl rfl)) (pgs_cons (pg_tup (by rfl) (pgs_cons (pg_name (i := 1) scSwapping.nd rfl (Or.inl rfl)) (pgs_cons (pg_name (i := 3) scSwapping.nd rfl (Or.inl rfl)) (pgs_cons (pg_name (i := 4) scSwapping.nd rfl (Or.inl rfl)) pgs_nil)))) pgs_nil)))))
      (pss_cons (ps_set (i := 5) scSwapping.nd rfl (Or.inl rfl) (pe_call GU hr1 rfl TU.g TU.F.kp TU.b .nil pass0 (pa_cons (pe_call GO hr1 rfl TO.g TO.F.kp TO.b .nil pass0 (pa_cons (pe_tup (pa_cons pe_str (pa_cons (pv 3) pa_nil))) (pa_cons (pv 4) pa_nil))) (pa_cons (pv 2) pa_nil))))
      (pss_one (ps_ret (pe_tup (pa_cons pe_str (pa_cons (pe_tup (pa_cons pe_str (pa_cons (pv 5) pa_nil))) pa_nil))))))) pss_nil)
      pss_never))), ?_⟩
      refine ⟨v1, rfl, v1, _, rfl, t1, p1, z1, fun H2 s12 => ?_⟩
      have t1 := t1.mono (TK.of_same s12)
      clear d1
      refine ⟨_, rfl, v1, _, .ov, rfl, t1, false, rfl, iteF (iteF ?_)⟩
      obtain ⟨q1, x, y, rfl, e1, hx, hy⟩ := tyN t1
      refine ⟨_, rfl, _, _, .un, rfl, t1, true, rfl, iteT ⟨_, rfl, q1, _, _, _, rfl, rfl, SqT.of e1, atI_nat (j := 2) rfl, y, _, .ov, rfl, hy, true, rfl, iteT ?_⟩⟩
      obtain ⟨q2, m1, m2, rfl, e2, hm1, hm2⟩ := tyN hy
      refine ⟨_, rfl, q1, _, rfl, SqT.of e1, rfl, _, _, rfl, _, _, rfl, _, _, rfl, q2, _, rfl, SqT.of e2, rfl, _, _, rfl, _, _, rfl, _, _, rfl, rfl, rfl, ?_⟩
      refine yd_set (d := unD b.d (ovD c.d (isD a))) (yd_spR (yda2 (yd_spR (yda2 (yt2 (txtIs _ (by simp)) (yd_var (by rfl) hm1.d)) (yd_var (by rfl) hm2.d)) rfl ⟨_, _, rfl, rfl⟩) (yd_var (by rfl) hx.d)) rfl ⟨_, _, rfl, rfl⟩) (Same.refl H2) fun u0 H3 s3 hu => ?_
      exact yd_ret (yt2 (txtIs _ (by simp)) (yt2 (txtIs _ (by simp)) (yd_var (by rfl) hu))) (Same.refl H3) fun v' H' s' h' => q v' H' ((s12.trans s3).trans s') h'
theorem ok_parting {f fc fh  : Addr} {fd fdc fdh  : FuncData} (T : Top K mg "parting" sParting pParting f fd) (TC : Top K mg "check_kind" sCheckKind pCheckKind fc fdc) (TH : Top K mg "has_sign" sHasSign pHasSign fh fdh) 
    (GC : FnOk P w K mg base CX0 3 fc fdc pCheckKind spCheckKindT) (GH : FnOk P w K mg base CX0 1 fh fdh pHasSign spHasSign)  : FnOk P w K mg base CX0 4 f fd pParting (spN 4 1) := by
  refine T.F.ok scParting (fun vs H Q E h => ?_) (fun cdv A outer s H vs Q E hr h => ?_)
  · obtain ⟨_, _, _, _, l, _⟩ := h
    exact l
  · obtain ⟨_, _, _, _, _, hd, hc, hs, q⟩ := h
    have hr1 : Room 1 _ := hr.mono (by decide)
    have hr2 : Room 2 _ := hr.mono (by decide)
    cases hc with
    | @p0 a b c h1 h2 h3 =>
      obtain ⟨v1, rfl, d1⟩ := dsAt1 hd
      have t1 : TyAt H v1 (.n .ov a (.n .th b c)) := d1.ty (Ty.ty_d _ ⟨h1, h2, h3⟩)
      obtain ⟨p1, z1⟩ := hs (Ty.d (.n .ov a (.n .th b c))) (by simp)
      refine ⟨_, (pss_cons (ps_expr (pe_call GC hr rfl TC.g TC.F.kp TC.b .nil pass0 (pa_cons (pv 0) pa_nil)))
      (pss_cons (ps_if (PW.pt (pw_and (pt_val (pe_call GH hr1 rfl TH.g TH.F.kp TH.b .nil pass0 (pa_cons (pv 0) (pa_cons pe_str pa_nil)))) (pw_and1 (pt_val (pe_call GH hr1 rfl TH.g TH.F.kp TH.b .nil pass0 (pa_cons (pe_ix ix_tup (pv 0) pe_int (fun _ _ => rfl)) (pa_cons pe_str pa_nil))))))) (pss_cons (ps_asg (pv 0) (pg_tup (by rfl) (pgs_cons (pg_name (i := 1) scParting.nd rfl (Or.inl rfl)) (pgs_cons (pg_name (i := 2) scParting.nd rfl (Or.inl rfl)) (pgs_cons (pg_tup (by rfl) (pgs_cons (pg_name (i := 1) scParting.nd rfl (Or.inl rfl)) (pgs_cons (pg_name (i := 3) scParting.nd rfl (Or.inl rfl)) (pgs_cons (pg_name (i := 4) scParting.nd rfl (Or.inl rfl)) pgs_nil)))) pgs_nil)))))
      (pss_cons (ps_set (i := 5) scParting.nd rfl (Or.inl rfl) (pe_tup (pa_cons pe_str (pa_cons (pe_tup (pa_cons pe_str (pa_cons (pv 3) pa_nil))) (pa_cons (pe_tup (pa_cons pe_str (pa_cons (pv 4) pa_nil))) pa_nil)))))
      (pss_one (ps_ret (pe_tup (pa_cons pe_str (pa_cons (pe_tup (pa_cons pe_str (pa_cons (pe_tup (pa_cons pe_str (pa_cons pe_int (pa_cons (pv 5) (pa_cons (pe_tup (pa_cons pe_str (pa_cons (pv 2) pa_nil))) pa_nil))))) pa_nil))) pa_nil))))))) pss_nil)
      (pss_cons (ps_if (PW.pt (pw_and (pt_val (pe_call GH hr1 rfl TH.g TH.F.kp TH.b .nil pass0 (pa_cons (pv 0) (pa_cons pe_str pa_nil)))) (pw_and1 (pt_val (pe_call GH hr1 rfl TH.g TH.F.kp TH.b .nil pass0 (pa_cons (pe_ix ix_tup (pv 0) pe_int (fun _ _ => rfl)) (pa_cons pe_str pa_nil))))))) (pss_cons (ps_asg (pv 0) (pg_tup (by rfl) (pgs_cons (pg_name (i := 1) scParting.nd rfl (Or.inl rfl)) (pgs_cons (pg_tup (by rfl) (pgs_cons (pg_name (i := 1) scParting.nd rfl (Or.inl rfl)) (pgs_cons (pg_name (i := 3) scParting.nd rfl (Or.inl rfl)) (pgs_cons (pg_name (i := 4) scParting.nd rfl (Or.inl rfl)) pgs_nil)))) (pgs_cons (pg_name (i := 2) scParting.nd rfl (Or.inl rfl)) pgs_nil)))))
      (pss_cons (ps_set (i := 5) scParting.nd rfl (Or.inl rfl) (pe_tup (pa_cons pe_str (pa_cons (pe_tup (pa_cons pe_str (pa_cons (pv 3) pa_nil))) (pa_cons (pe_tup (pa_cons pe_str (pa_cons (pv 4) pa_nil))) pa_nil)))))
      (pss_one (ps_ret (pe_tup (pa_cons pe_str (pa_cons (pe_tup (pa_cons pe_str (pa_cons (pe_tup (pa_cons pe_str (pa_cons pe_int (pa_cons (pv 5) (pa_cons (pe_tup (pa_cons pe_str (pa_cons (pv 2) pa_nil))) pa_nil))))) pa_nil))) pa_nil))))))) pss_nil)
      pss_never))), ?_⟩
      refine ⟨v1, rfl, v1, _, rfl, t1, p1, z1, fun H2 s12 => ?_⟩
      have t1 := t1.mono (TK.of_same s12)
      clear d1
      obtain ⟨q1, x, y, rfl, e1, hx, hy⟩ := tyN t1
      refine ⟨_, rfl, _, _, .ov, rfl, t1, true, rfl, iteT ⟨_, rfl, q1, _, _, _, rfl, rfl, SqT.of e1, atI_nat (j := 2) rfl, y, _, .th, rfl, hy, true, rfl, iteT ?_⟩⟩
      obtain ⟨q2, m1, m2, rfl, e2, hm1, hm2⟩ := tyN hy
      refine ⟨_, rfl, q1, _, rfl, SqT.of e1, rfl, _, _, rfl, _, _, rfl, _, _, rfl, q2, _, rfl, SqT.of e2, rfl, _, _, rfl, _, _, rfl, _, _, rfl, rfl, rfl, ?_⟩
      refine yd_set (d := .t [.s "then made", isD b, isD c]) (yt3 (txtIs _ (by simp)) (yt2 (txtIs _ (by simp)) (yd_var (by rfl) hm1.d)) (yt2 (txtIs _ (by simp)) (yd_var (by rfl) hm2.d))) (Same.refl H2) fun u0 H3 s3 hu => ?_
      exact yd_ret (yt2 (txtIs _ (by simp)) (yt2 (txtIs _ (by simp)) (yt4 (d := .i 0) (txtIs _ (by simp)) yd_int (yd_var (by rfl) hu) (yt2 (txtIs _ (by simp)) (yd_var (by rfl) (hx.d.mono (TK.of_same s3))))))) (Same.refl H3) fun v' H' s' h' => q v' H' ((s12.trans s3).trans s') h'
    | @p1 a b c h1 h2 h3 =>
      obtain ⟨v1, rfl, d1⟩ := dsAt1 hd
      have t1 : TyAt H v1 (.n .un (.n .th b c) a) := d1.ty (Ty.ty_d _ ⟨⟨h2, h3⟩, h1⟩)
      obtain ⟨p1, z1⟩ := hs (Ty.d (.n .un (.n .th b c) a)) (by simp)
      refine ⟨_, (pss_cons (ps_expr (pe_call GC hr rfl TC.g TC.F.kp TC.b .nil pass0 (pa_cons (pv 0) pa_nil)))
      (pss_cons (ps_if (PW.pt (pw_and (pt_val (pe_call GH hr1 rfl TH.g TH.F.kp TH.b .nil pass0 (pa_cons (pv 0) (pa_cons pe_str pa_nil)))) (pw_and1 (pt_val (pe_call GH hr1 rfl TH.g TH.F.kp TH.b .nil pass0 (pa_cons (pe_ix ix_tup (pv 0) pe_int (fun _ _ => rfl)) (pa_cons pe_str pa_nil))))))) (pss_cons (ps_asg (pv 0) (pg_tup (by rfl) (pgs_cons (pg_name (i := 1) scParting.nd rfl (Or.inl rfl)) (pgs_cons (pg_name (i := 2) scParting.nd rfl (Or.inl rfl)) (pgs_cons (pg_tup (by rfl) (pgs_cons (pg_name (i := 1) scParting.nd rfl (Or.inl rfl)) (pgs_cons (pg_name (i := 3) scParting.nd rfl (Or.inl rfl)) (pgs_cons (pg_name (i := 4) scParting.nd rfl (Or.inl rfl)) pgs_nil)))) pgs_nil)))))
      (pss_cons (ps_set (i := 5) scParting.nd rfl (Or.inl rfl) (pe_tup (pa_cons pe_str (pa_cons (pe_tup (pa_cons pe_str (pa_cons (pv 3) pa_nil))) (pa_cons (pe_tup (pa_cons pe_str (pa_cons (pv 4) pa_nil))) pa_nil)))))
      (pss_one (ps_ret (pe_tup (pa_cons pe_str (pa_cons (pe_tup (pa_cons pe_str (pa_cons (pe_tup (pa_cons pe_str (pa_cons pe_int (pa_cons (pv 5) (pa_cons (pe_tup (pa_cons pe_str (pa_cons (pv 2) pa_nil))) pa_nil))))) pa_nil))) pa_nil))))))) pss_nil)
      (pss_cons (ps_if (PW.pt (pw_and (pt_val (pe_call GH hr1 rfl TH.g TH.F.kp TH.b .nil pass0 (pa_cons (pv 0) (pa_cons pe_str pa_nil)))) (pw_and1 (pt_val (pe_call GH hr1 rfl TH.g TH.F.kp TH.b .nil pass0 (pa_cons (pe_ix ix_tup (pv 0) pe_int (fun _ _ => rfl)) (pa_cons pe_str pa_nil))))))) (pss_cons (ps_asg (pv 0) (pg_tup (by rfl) (pgs_cons (pg_name (i := 1) scParting.nd rfl (Or.inl rfl)) (pgs_cons (pg_tup (by rfl) (pgs_cons (pg_name (i := 1) scParting.nd rfl (Or.inl rfl)) (pgs_cons (pg_name (i := 3) scParting.nd rfl (Or.inl rfl)) (pgs_cons (pg_name (i := 4) scParting.nd rfl (Or.inl rfl)) pgs_nil)))) (pgs_cons (pg_name (i := 2) scParting.nd rfl (Or.inl rfl)) pgs_nil)))))
      (pss_cons (ps_set (i := 5) scParting.nd rfl (Or.inl rfl) (pe_tup (pa_cons pe_str (pa_cons (pe_tup (pa_cons pe_str (pa_cons (pv 3) pa_nil))) (pa_cons (pe_tup (pa_cons pe_str (pa_cons (pv 4) pa_nil))) pa_nil)))))
      (pss_one (ps_ret (pe_tup (pa_cons pe_str (pa_cons (pe_tup (pa_cons pe_str (pa_cons (pe_tup (pa_cons pe_str (pa_cons pe_int (pa_cons (pv 5) (pa_cons (pe_tup (pa_cons pe_str (pa_cons (pv 2) pa_nil))) pa_nil))))) pa_nil))) pa_nil))))))) pss_nil)
      pss_never))), ?_⟩
      refine ⟨v1, rfl, v1, _, rfl, t1, p1, z1, fun H2 s12 => ?_⟩
      have t1 := t1.mono (TK.of_same s12)
      clear d1
      refine ⟨_, rfl, v1, _, .ov, rfl, t1, false, rfl, iteF (iteF ?_)⟩
      obtain ⟨q1, x, y, rfl, e1, hx, hy⟩ := tyN t1
      refine ⟨_, rfl, _, _, .un, rfl, t1, true, rfl, iteT ⟨_, rfl, q1, _, _, _, rfl, rfl, SqT.of e1, atI_nat (j := 1) rfl, x, _, .th, rfl, hx, true, rfl, iteT ?_⟩⟩
      obtain ⟨q2, m1, m2, rfl, e2, hm1, hm2⟩ := tyN hx
      refine ⟨_, rfl, q1, _, rfl, SqT.of e1, rfl, _, _, rfl, _, _, rfl, q2, _, rfl, SqT.of e2, rfl, _, _, rfl, _, _, rfl, _, _, rfl, rfl, _, _, rfl, rfl, ?_⟩
      refine yd_set (d := .t [.s "then made", isD b, isD c]) (yt3 (txtIs _ (by simp)) (yt2 (txtIs _ (by simp)) (yd_var (by rfl) hm1.d)) (yt2 (txtIs _ (by simp)) (yd_var (by rfl) hm2.d))) (Same.refl H2) fun u0 H3 s3 hu => ?_
      exact yd_ret (yt2 (txtIs _ (by simp)) (yt2 (txtIs _ (by simp)) (yt4 (d := .i 0) (txtIs _ (by simp)) yd_int (yd_var (by rfl) hu) (yt2 (txtIs _ (by simp)) (yd_var (by rfl) (hy.d.mono (TK.of_same s3))))))) (Same.refl H3) fun v' H' s' h' => q v' H' ((s12.trans s3).trans s') h'
theorem ok_packing {f fc fh fO fU : Addr} {fd fdc fdh fdO fdU : FuncData} (T : Top K mg "packing" sPacking pPacking f fd) (TC : Top K mg "check_kind" sCheckKind pCheckKind fc fdc) (TH : Top K mg "has_sign" sHasSign pHasSign fh fdh) (TO : Top K mg "_over" sOver pOver fO fdO) (TU : Top K mg "_under" sUnder pUnder fU fdU)
    (GC : FnOk P w K mg base CX0 3 fc fdc pCheckKind spCheckKindT) (GH : FnOk P w K mg base CX0 1 fh fdh pHasSign spHasSign) (GO : FnOk P w K mg base CX0 1 fO fdO pOver (spR 2 ROv)) (GU : FnOk P w K mg base CX0 1 fU fdU pUnder (spR 2 RUn)) : FnOk P w K mg base CX0 4 f fd pPacking (spN 5 1) := by
  refine T.F.ok scPacking (fun vs H Q E h => ?_) (fun cdv A outer s H vs Q E hr h => ?_)
  · obtain ⟨_, _, _, _, l, _⟩ := h
    exact l
  · obtain ⟨_, _, _, _, _, hd, hc, hs, q⟩ := h
    have hr1 : Room 1 _ := hr.mono (by decide)
    have hr2 : Room 2 _ := hr.mono (by decide)
    cases hc with
    | @k0 a b c h1 h2 h3 =>
      obtain ⟨v1, rfl, d1⟩ := dsAt1 hd
      have t1 : TyAt H v1 (.n .ov (.n .ov a c) b) := d1.ty (Ty.ty_d _ ⟨⟨h1, h3⟩, h2⟩)
      obtain ⟨p1, z1⟩ := hs (Ty.d (.n .ov (.n .ov a c) b)) (by simp)
      refine ⟨_, (pss_cons (ps_expr (pe_call GC hr rfl TC.g TC.F.kp TC.b .nil pass0 (pa_cons (pv 0) pa_nil)))
      (pss_cons (ps_if (PW.pt (pw_and (pt_val (pe_call GH hr1 rfl TH.g TH.F.kp TH.b .nil pass0 (pa_cons (pv 0) (pa_cons pe_str pa_nil)))) (pw_and1 (pt_val (pe_call GH hr1 rfl TH.g TH.F.kp TH.b .nil pass0 (pa_cons (pe_ix ix_tup (pv 0) pe_int (fun _ _ => rfl)) (pa_cons pe_str pa_nil))))))) (pss_cons (ps_asg (pv 0) (pg_tup (by rfl) (pgs_cons (pg_name (i := 1) scPacking.nd rfl (Or.inl rfl)) (pgs_cons (pg_tup (by rfl) (pgs_cons (pg_name (i := 1) scPacking.nd rfl (Or.inl rfl)) (pgs_cons (pg_name (i := 2) scPacking.nd rfl (Or.inl rfl)) (pgs_cons (pg_name (i := 3) scPacking.nd rfl (Or.inl rfl)) pgs_nil)))) (pgs_cons (pg_name (i := 4) scPacking.nd rfl (Or.inl rfl)) pgs_nil)))))
      (pss_cons (ps_set (i := 5) scPacking.nd rfl (Or.inl rfl) (pe_call GO hr1 rfl TO.g TO.F.kp TO.b .nil pass0 (pa_cons (pe_call GO hr1 rfl TO.g TO.F.kp TO.b .nil pass0 (pa_cons (pe_tup (pa_cons pe_str (pa_cons (pv 2) pa_nil))) (pa_cons (pv 3) pa_nil))) (pa_cons (pv 4) pa_nil))))
      (pss_one (ps_ret (pe_tup (pa_cons pe_str (pa_cons (pe_tup (pa_cons pe_str (pa_cons pe_int (pa_cons (pv 5) pa_nil)))) pa_nil))))))) pss_nil)
      (pss_cons (ps_if (PW.pt (pw_and (pt_val (pe_call GH hr1 rfl TH.g TH.F.kp TH.b .nil pass0 (pa_cons (pv 0) (pa_cons pe_str pa_nil)))) (pw_and1 (pt_val (pe_call GH hr1 rfl TH.g TH.F.kp TH.b .nil pass0 (pa_cons (pe_ix ix_tup (pv 0) pe_int (fun _ _ => rfl)) (pa_cons pe_str pa_nil))))))) (pss_cons (ps_asg (pv 0) (pg_tup (by rfl) (pgs_cons (pg_name (i := 1) scPacking.nd rfl (Or.inl rfl)) (pgs_cons (pg_name (i := 3) scPacking.nd rfl (Or.inl rfl)) (pgs_cons (pg_tup (by rfl) (pgs_cons (pg_name (i := 1) scPacking.nd rfl (Or.inl rfl)) (pgs_cons (pg_name (i := 4) scPacking.nd rfl (Or.inl rfl)) (pgs_cons (pg_name (i := 2) scPacking.nd rfl (Or.inl rfl)) pgs_nil)))) pgs_nil)))))
      (pss_cons (ps_set (i := 5) scPacking.nd rfl (Or.inl rfl) (pe_tup (pa_cons pe_str (pa_cons pe_int (pa_cons (pe_tup (pa_cons pe_str (pa_cons (pv 3) pa_nil))) (pa_cons (pe_call GU hr1 rfl TU.g TU.F.kp TU.b .nil pass0 (pa_cons (pe_tup (pa_cons pe_str (pa_cons (pv 2) pa_nil))) (pa_cons (pv 4) pa_nil))) pa_nil))))))
      (pss_one (ps_ret (pe_tup (pa_cons pe_str (pa_cons (pe_tup (pa_cons pe_str (pa_cons pe_int (pa_cons (pv 5) pa_nil)))) pa_nil))))))) pss_nil)
      pss_never))), ?_⟩
      refine ⟨v1, rfl, v1, _, rfl, t1, p1, z1, fun H2 s12 => ?_⟩
      have t1 := t1.mono (TK.of_same s12)
      clear d1
      obtain ⟨q1, x, y, rfl, e1, hx, hy⟩ := tyN t1
      refine ⟨_, rfl, _, _, .ov, rfl, t1, true, rfl, iteT ⟨_, rfl, q1, _, _, _, rfl, rfl, SqT.of e1, atI_nat (j := 1) rfl, x, _, .ov, rfl, hx, true, rfl, iteT ?_⟩⟩
      obtain ⟨q2, m1, m2, rfl, e2, hm1, hm2⟩ := tyN hx
      refine ⟨_, rfl, q1, _, rfl, SqT.of e1, rfl, _, _, rfl, _, _, rfl, q2, _, rfl, SqT.of e2, rfl, _, _, rfl, _, _, rfl, _, _, rfl, rfl, _, _, rfl, rfl, ?_⟩
      refine yd_set (d := ovD b.d (ovD c.d (isD a))) (yd_spR (yda2 (yd_spR (yda2 (yt2 (txtIs _ (by simp)) (yd_var (by rfl) hm1.d)) (yd_var (by rfl) hm2.d)) rfl ⟨_, _, rfl, rfl⟩) (yd_var (by rfl) hy.d)) rfl ⟨_, _, rfl, rfl⟩) (Same.refl H2) fun u0 H3 s3 hu => ?_
      exact yd_ret (yt2 (txtIs _ (by simp)) (yt3 (d := .i 1) (txtIs _ (by simp)) yd_int (yd_var (by rfl) hu))) (Same.refl H3) fun v' H' s' h' => q v' H' ((s12.trans s3).trans s') h'
    | @k1 a b c h1 h2 h3 =>
      obtain ⟨v1, rfl, d1⟩ := dsAt1 hd
      have t1 : TyAt H v1 (.n .un c (.n .un b a)) := d1.ty (Ty.ty_d _ ⟨h3, h2, h1⟩)
      obtain ⟨p1, z1⟩ := hs (Ty.d (.n .un c (.n .un b a))) (by simp)
      refine ⟨_, (pss_cons (ps_expr (pe_call GC hr rfl TC.g TC.F.kp TC.b .nil pass0 (pa_cons (pv 0) pa_nil)))
      (pss_cons (ps_if (PW.pt (pw_and (pt_val (pe_call GH hr1 rfl TH.g TH.F.kp TH.b .nil pass0 (pa_cons (pv 0) (pa_cons pe_str pa_nil)))) (pw_and1 (pt_val (pe_call GH hr1 rfl TH.g TH.F.kp TH.b .nil pass0 (pa_cons (pe_ix ix_tup (pv 0) pe_int (fun _ _ => rfl)) (pa_cons pe_str pa_nil))))))) (pss_cons (ps_asg (pv 0) (pg_tup (by rfl) (pgs_cons (pg_name (i := 1) scPacking.nd rfl (Or.inl rfl)) (pgs_cons (pg_tup (by rfl) (pgs_cons (pg_name (i := 1) scPacking.nd rfl (Or.inl rfl)) (pgs_cons (pg_name (i := 2) scPacking.nd rfl (Or.inl rfl)) (pgs_cons (pg_name (i := 3) scPacking.nd rfl (Or.inl rfl)) pgs_nil)))) (pgs_cons (pg_name (i := 4) scPacking.nd rfl (Or.inl rfl)) pgs_nil)))))
      (pss_cons (ps_set (i := 5) scPacking.nd rfl (Or.inl rfl) (pe_call GO hr1 rfl TO.g TO.F.kp TO.b .nil pass0 (pa_cons (pe_call GO hr1 rfl TO.g TO.F.kp TO.b .nil pass0 (pa_cons (pe_tup (pa_cons pe_str (pa_cons (pv 2) pa_nil))) (pa_cons (pv 3) pa_nil))) (pa_cons (pv 4) pa_nil))))
      (pss_one (ps_ret (pe_tup (pa_cons pe_str (pa_cons (pe_tup (pa_cons pe_str (pa_cons pe_int (pa_cons (pv 5) pa_nil)))) pa_nil))))))) pss_nil)
      (pss_cons (ps_if (PW.pt (pw_and (pt_val (pe_call GH hr1 rfl TH.g TH.F.kp TH.b .nil pass0 (pa_cons (pv 0) (pa_cons pe_str pa_nil)))) (pw_and1 (pt_val (pe_call GH hr1 rfl TH.g TH.F.kp TH.b .nil pass0 (pa_cons (pe_ix ix_tup (pv 0) pe_int (fun _ _ => rfl)) (pa_cons pe_str pa_nil))))))) (pss_cons (ps_asg (pv 0) (pg_tup (by rfl) (pgs_cons (pg_name (i := 1) scPacking.nd rfl (Or.inl rfl)) (pgs_cons (pg_name (i := 3) scPacking.nd rfl (Or.inl rfl)) (pgs_cons (pg_tup (by rfl) (pgs_cons (pg_name (i := 1) scPacking.nd rfl (Or.inl rfl)) (pgs_cons (pg_name (i := 4) scPacking.nd rfl (Or.inl rfl)) (pgs_cons (pg_name (i := 2) scPacking.nd rfl (Or.inl rfl)) pgs_nil)))) pgs_nil)))))
      (pss_cons (ps_set (i := 5) scPacking.nd rfl (Or.inl rfl) (pe_tup (pa_cons pe_str (pa_cons pe_int (pa_cons (pe_tup (pa_cons pe_str (pa_cons (pv 3) pa_nil))) (pa_cons (pe_call GU hr1 rfl TU.g TU.F.kp TU.b .nil pass0 (pa_cons (pe_tup (pa_cons pe_str (pa_cons (pv 2) pa_nil))) (pa_cons (pv 4) pa_nil))) pa_nil))))))
      (pss_one (ps_ret (pe_tup (pa_cons pe_str (pa_cons (pe_tup (pa_cons pe_str (pa_cons pe_int (pa_cons (pv 5) pa_nil)))) pa_nil))))))) pss_nil)
      pss_never))), ?_⟩
      refine ⟨v1, rfl, v1, _, rfl, t1, p1, z1, fun H2 s12 => ?_⟩
      have t1 := t1.mono (TK.of_same s12)
      clear d1
      refine ⟨_, rfl, v1, _, .ov, rfl, t1, false, rfl, iteF (iteF ?_)⟩
      obtain ⟨q1, x, y, rfl, e1, hx, hy⟩ := tyN t1
      refine ⟨_, rfl, _, _, .un, rfl, t1, true, rfl, iteT ⟨_, rfl, q1, _, _, _, rfl, rfl, SqT.of e1, atI_nat (j := 2) rfl, y, _, .un, rfl, hy, true, rfl, iteT ?_⟩⟩
      obtain ⟨q2, m1, m2, rfl, e2, hm1, hm2⟩ := tyN hy
      refine ⟨_, rfl, q1, _, rfl, SqT.of e1, rfl, _, _, rfl, _, _, rfl, _, _, rfl, q2, _, rfl, SqT.of e2, rfl, _, _, rfl, _, _, rfl, _, _, rfl, rfl, rfl, ?_⟩
      refine yd_set (d := .t [.s "under used", .i 1, isD c, unD b.d (isD a)]) (yt4 (d := .i 1) (txtIs _ (by simp)) yd_int (yt2 (txtIs _ (by simp)) (yd_var (by rfl) hx.d)) (yd_spR (yda2 (yt2 (txtIs _ (by simp)) (yd_var (by rfl) hm2.d)) (yd_var (by rfl) hm1.d)) rfl ⟨_, _, rfl, rfl⟩)) (Same.refl H2) fun u0 H3 s3 hu => ?_
      exact yd_ret (yt2 (txtIs _ (by simp)) (yt3 (d := .i 0) (txtIs _ (by simp)) yd_int (yd_var (by rfl) hu))) (Same.refl H3) fun v' H' s' h' => q v' H' ((s12.trans s3).trans s') h'
end
end Q4

namespace Q4
open PySem PySem.Spec PyProof.Rows L2 LamX KT
open PySem.W (Frag)
/-- a few words -/
structure Wds (zs : List Str) : Prop where
  w : ∀ z ∈ zs, IsW z
  l1 : 1 ≤ zs.length
  l3 : zs.length ≤ 3
abbrev sgV : List V := [.str "over", .str "then", .str "under"]
theorem purse_ne_tup {H : Hp} {a S : Addr} {n : Nat} {xs : List V} (p : PurseAt H a n) (e : H S = some (.tup xs)) : S ≠ a := by
  rintro rfl
  obtain ⟨_, _, _, _, e', _⟩ := p
  rw [e'] at e
  cases e
section
variable {P : Program} {w : World} {K : Frag} {mg : Str → Option Value} {base : Heap}
def spOneOfT : Sp := fun vs H Q _ => ∃ (a L : Addr) (n : Nat) (xs : List V), vs = [.ref a, .ref L] ∧ PurseAt H a n ∧ n ≤ 1000000000000 ∧ H L = some (.tup xs) ∧ 1 ≤ xs.length ∧ xs.length < 1048576 ∧
  ∀ (i : Nat) (x : V) (H' : Hp), xs[i]? = some x → (∀ b, b ≠ a → H' b = H b) → PurseAt H' a (n + 1) → Q x H'
theorem ok_oneOfT {f fd_ : Addr} {fd fdd : FuncData} (T : Top K mg "_law_one_of" sLOneOf ["purse", "some"] f fd) (TD : Top K mg "_law_draw" sLDraw ["purse", "many"] fd_ fdd)
    (GD : FnOk P w K mg base CX0 2 fd_ fdd ["purse", "many"] spDraw) (B : Blt mg) : FnOk P w K mg base CX0 3 f fd ["purse", "some"] spOneOfT := by
  refine T.F.ok scLOneOf (fun vs H Q E h => ?_) (fun cdv A outer s H vs Q E hr h => ?_)
  · obtain ⟨_, _, _, _, rfl, _⟩ := h
    rfl
  · obtain ⟨a, L, n, xs, rfl, hp, hn, hL, h1, h2, k⟩ := h
    refine ⟨_, pss_one (ps_ret (pe_ix ix_tup (pv 1) (pe_call GD hr rfl TD.g TD.F.kp TD.b .nil pass0 (pa_cons (pv 0) (pa_cons (pe_callB call_len_seq (by rfl) B.len PySem.boot_len (pa_cons (pv 1) pa_nil)) pa_nil))) (fun _ _ => rfl))), ?_⟩
    refine ⟨_, rfl, _, rfl, _, rfl, L, _, rfl, .inr (SqT.of hL), a, n, _, rfl, hp, hn, by omega, by omega, fun d H' d0 d1 off hp' => ?_⟩
    obtain ⟨j, rfl⟩ := Int.eq_ofNat_of_zero_le d0
    have hj : j < xs.length := by omega
    refine ⟨L, xs, _, xs[j], rfl, rfl, SqT.of (by rw [off L (purse_ne_tup hp hL)]; exact hL), atI_nat (by simp [hj]), ?_⟩
    exact k j _ H' (by simp [hj]) off hp'
def spKindS (d : Nat) : Sp := fun vs H Q _ => ∃ (a L S : Addr) (n m : Nat) (zs : List Str), vs = [.ref a, .ref L, .int m, .ref S] ∧ PurseAt H a n ∧ n + 3 * m ≤ 600000000000 ∧ L ≠ a ∧ H L = some (.lst (zs.map V.str)) ∧ Wds zs ∧ H S = some (.tup sgV) ∧ m ≤ d ∧
  ∀ (x : V) (t : Ty) (H' : Hp), TyAt H' x t → t.signs = m → KeepBut a H H' → PurseAt H' a (n + 3 * m + 1) → Q x H'
theorem kindS_step {f fd_ fo : Addr} {fd fdd fdo : FuncData} (T : Top K mg "_law_kind" sLKind pLKind f fd) (TD : Top K mg "_law_draw" sLDraw ["purse", "many"] fd_ fdd) (TO : Top K mg "_law_one_of" sLOneOf ["purse", "some"] fo fdo)
    (GD : FnOk P w K mg base CX0 2 fd_ fdd ["purse", "many"] spDraw) (GO : FnOk P w K mg base CX0 3 fo fdo ["purse", "some"] spOneOf) (GT : FnOk P w K mg base CX0 3 fo fdo ["purse", "some"] spOneOfT) (B : Blt mg) {d m0 : Nat} {sp' : Sp} (hd : d ≤ 30) (hm0 : 3 ≤ m0) (GK : FnOk P w K mg base CX0 m0 f fd pLKind sp')
    (hsp : ∀ (a L S : Addr) (n m : Nat) (zs : List Str) (H : Hp) (Q : VK), PurseAt H a n → n + 3 * m ≤ 600000000000 → L ≠ a → H L = some (.lst (zs.map V.str)) → Wds zs → H S = some (.tup sgV) → m + 1 ≤ d → (∀ (x : V) (t : Ty) (H' : Hp), TyAt H' x t → t.signs = m → KeepBut a H H' → PurseAt H' a (n + 3 * m + 1) → Q x H') → sp' [.ref a, .ref L, .int m, .ref S] H Q L2.E0) : FnOk P w K mg base CX0 (m0 + 1) f fd pLKind (spKindS d) := by
  refine T.F.ok scLKind (fun vs H Q E h => ?_) (fun cdv A outer s H vs Q E hr h => ?_)
  · obtain ⟨_, _, _, _, _, _, rfl, _⟩ := h
    rfl
  · obtain ⟨a, L, S, n, m, zs, rfl, hp, hn, nLa, eL, hz, eS, hm, k⟩ := h
    have hr3 : Room 3 _ := hr.mono hm0
    have hr2 : Room 2 _ := hr3.mono (by omega)
    have l1 := hz.l1
    have l3 := hz.l3
    refine ⟨_, (pss_cons (ps_if (pt_cmpR op_eq (pv 2) pe_int (nomark _)) (pss_one (ps_ret (pe_call GO hr3 rfl TO.g TO.F.kp TO.b .nil pass0 (pa_cons (pv 0) (pa_cons (pv 1) pa_nil))))) pss_nil)
      (pss_cons (ps_set (i := 4) scLKind.nd rfl (Or.inl rfl) (pe_call GD hr2 rfl TD.g TD.F.kp TD.b .nil pass0 (pa_cons (pv 0) (pa_cons (pv 2) pa_nil))))
      (pss_one (ps_ret (pe_tup (pa_cons (pe_call GT hr3 rfl TO.g TO.F.kp TO.b .nil pass0 (pa_cons (pv 0) (pa_cons (pv 3) pa_nil))) (pa_cons (pe_call GK hr rfl T.g T.F.kp T.b .nil pass0 (pa_cons (pv 0) (pa_cons (pv 1) (pa_cons (pv 4) (pa_cons (pv 3) pa_nil))))) (pa_cons (pe_call GK hr rfl T.g T.F.kp T.b .nil pass0 (pa_cons (pv 0) (pa_cons (pv 1) (pa_cons (pe_op op_sub (pe_op op_sub (pv 2) pe_int) (pv 4)) (pa_cons (pv 3) pa_nil))))) pa_nil)))))))), ?_⟩
    refine ⟨_, rfl, rfl, _, rfl, ite2 (fun c => ?_) (fun c => ?_)⟩
    · have e0 : (V.int (m : Int)) = V.int 0 := of_decide_eq_true c
      obtain rfl : m = 0 := by
        injection e0 with e0
        omega
      refine ⟨_, rfl, _, rfl, a, L, n, _, rfl, hp, by omega, nLa, eL, by rw [List.length_map]; exact hz.l1, by rw [List.length_map]; omega, fun i x H' hx off hp' => ?_⟩
      rw [List.getElem?_map] at hx
      obtain ⟨z, hzi, rfl⟩ := Option.map_eq_some_iff.mp hx
      exact k _ (.w z) H' (.w (hz.w z (List.mem_of_getElem? hzi))) rfl (.of_off off) hp'
    · have hm0 : m ≠ 0 := fun e => c (by rw [e]; rfl)
      refine ⟨_, rfl, _, rfl, a, n, m, rfl, hp, by omega, by omega, by omega, fun d0 H1 c0 c1 off1 hp1 => ?_⟩
      obtain ⟨j, rfl⟩ := Int.eq_ofNat_of_zero_le c0
      have hj : j < m := by omega
      have kb1 : KeepBut a H H1 := .of_off off1
      have nS := purse_ne_tup hp eS
      refine ⟨_, rfl, _, rfl, a, S, n + 1, _, rfl, hp1, by omega, kb1 _ _ eS nS, by show 1 ≤ 3; omega, by show 3 < 1048576; omega, fun i x H2 hx off2 hp2 => ?_⟩
      have hg : ∃ g : Sg, x = .str g.str := by
        match i, hx with
        | 0, hx => exact ⟨.ov, (Option.some.inj hx).symm⟩
        | 1, hx => exact ⟨.th, (Option.some.inj hx).symm⟩
        | 2, hx => exact ⟨.un, (Option.some.inj hx).symm⟩
        | i + 3, hx => exact absurd hx (by simp)
      obtain ⟨g, rfl⟩ := hg
      have kb2 : KeepBut a H H2 := kb1.trans (.of_off off2)
      refine ⟨_, rfl, _, rfl, _, rfl, _, rfl, hsp a L S (n + 2) j zs _ _ hp2 (by omega) nLa (kb2 _ _ eL nLa) hz (kb2 _ _ eS nS) (by omega) fun x1 t1 H3 ht1 hs1 kb3 hp3 => ?_⟩
      have kb13 := kb2.trans kb3
      refine ⟨_, rfl, _, rfl, _, rfl, _, _, rfl, rfl, _, rfl, _, _, rfl, rfl, _, rfl, ?_⟩
      have em : (m : Int) - 1 - (j : Int) = ((m - 1 - j : Nat) : Int) := by omega
      dsimp only
      rw [em]
      refine hsp a L S (n + 2 + 3 * j + 1) (m - 1 - j) zs _ _ hp3 (by omega) nLa (kb13 _ _ eL nLa) hz (kb13 _ _ eS nS) (by omega) fun x2 t2 H4 ht2 hs2 kb4 hp4 => ?_
      refine ⟨by show 3 ≤ sizeLine; rw [sizeLine_eq]; omega, fun q nq => ?_⟩
      have kbA : KeepBut a H H4 := kb13.trans kb4
      have tk3 : TK H3 (upd H4 q (.tup [.str g.str, x1, x2])) := (TK.of_keepBut kb4 hp3).trans (TK.upd_new nq)
      refine k _ (.n g t1 t2) _ (.n upd_same (ht1.mono tk3) (ht2.mono (TK.upd_new nq))) ?_ (kbA.upd_new (kbA.free nq (hp4.ne nq).symm)) ((hp4.upd (hp4.ne nq)).mono (by omega))
      show 1 + t1.signs + t2.signs = m
      omega
theorem ok_kindS {f fd_ fo : Addr} {fd fdd fdo : FuncData} (T : Top K mg "_law_kind" sLKind pLKind f fd) (TD : Top K mg "_law_draw" sLDraw ["purse", "many"] fd_ fdd) (TO : Top K mg "_law_one_of" sLOneOf ["purse", "some"] fo fdo)
    (GD : FnOk P w K mg base CX0 2 fd_ fdd ["purse", "many"] spDraw) (GO : FnOk P w K mg base CX0 3 fo fdo ["purse", "some"] spOneOf) (GT : FnOk P w K mg base CX0 3 fo fdo ["purse", "some"] spOneOfT) (B : Blt mg) : ∀ d : Nat, d ≤ 30 → FnOk P w K mg base CX0 (4 + d) f fd pLKind (spKindS d)
  | 0, hd => kindS_step (m0 := 3) T TD TO GD GO GT B hd (by omega) (fn_vac.mono (by omega)) fun _ _ _ _ _ _ _ _ _ _ _ _ _ _ h _ => absurd h (by omega)
  | d + 1, hd => kindS_step (m0 := 4 + d) T TD TO GD GO GT B hd (by omega) (ok_kindS T TD TO GD GO GT B d (by omega)) fun a L S n m zs H Q h1 h2 h3 h4 h5 h6 h7 h8 => ⟨a, L, S, n, m, zs, rfl, h1, h2, h3, h4, h5, h6, by omega, h8⟩
def spSomeKind : Sp := fun vs H Q _ => ∃ (a L S : Addr) (n : Nat) (zs : List Str), vs = [.ref a, .ref L, .int 2, .ref S] ∧ PurseAt H a n ∧ n ≤ 500000000000 ∧ L ≠ a ∧ H L = some (.lst (zs.map V.str)) ∧ Wds zs ∧ H S = some (.tup sgV) ∧
  ∀ (x : V) (t : Ty) (H' : Hp), TyAt H' x t → t.signs ≤ 2 → KeepBut a H H' → PurseAt H' a (n + 8) → Q x H'
theorem ok_someKind {f fk fd_ : Addr} {fd fdk fdd : FuncData} (T : Top K mg "_law_some_kind" sLSomeKind pLSomeKind f fd) (TKd : Top K mg "_law_kind" sLKind pLKind fk fdk) (TD : Top K mg "_law_draw" sLDraw ["purse", "many"] fd_ fdd)
    (GD : FnOk P w K mg base CX0 2 fd_ fdd ["purse", "many"] spDraw) (GK : FnOk P w K mg base CX0 6 fk fdk pLKind (spKindS 2)) : FnOk P w K mg base CX0 7 f fd pLSomeKind spSomeKind := by
  refine T.F.ok scLSomeKind (fun vs H Q E h => ?_) (fun cdv A outer s H vs Q E hr h => ?_)
  · obtain ⟨_, _, _, _, _, rfl, _⟩ := h
    rfl
  · obtain ⟨a, L, S, n, zs, rfl, hp, hn, nLa, eL, hz, eS, k⟩ := h
    have hr2 : Room 2 _ := hr.mono (by decide)
    refine ⟨_, pss_one (ps_ret (pe_call GK hr rfl TKd.g TKd.F.kp TKd.b .nil pass0 (pa_cons (pv 0) (pa_cons (pv 1) (pa_cons (pe_call GD hr2 rfl TD.g TD.F.kp TD.b .nil pass0 (pa_cons (pv 0) (pa_cons (pe_op op_add (pv 2) pe_int) pa_nil))) (pa_cons (pv 3) pa_nil)))))), ?_⟩
    refine ⟨_, rfl, _, rfl, _, rfl, _, rfl, _, _, rfl, rfl, a, n, 3, rfl, hp, by omega, by omega, by omega, fun d H1 c0 c1 off hp1 => ?_⟩
    obtain ⟨m, rfl⟩ := Int.eq_ofNat_of_zero_le c0
    have kb1 : KeepBut a H H1 := .of_off off
    have nS := purse_ne_tup hp eS
    refine ⟨_, rfl, a, L, S, _, m, zs, rfl, hp1, by omega, nLa, kb1 _ _ eL nLa, hz, kb1 _ _ eS nS, by omega, fun x t H2 ht hs kb2 hp2 => k x t H2 ht (by omega) (kb1.trans kb2) (hp2.mono (by omega))⟩
def spPlainSome : Sp := fun vs H Q _ => ∃ (a : Addr) (n : Nat) (many : Int), vs = [.ref a, .int many] ∧ PurseAt H a n ∧ n ≤ 500000000000 ∧ 1 ≤ many ∧ many ≤ 3 ∧
  ∀ (L : Addr) (zs : List Str) (H' : Hp), Wds zs → KeepBut a H H' → L ≠ a → H' L = some (.lst (zs.map V.str)) → PurseAt H' a (n + 60) → Q (.ref L) H'
theorem ok_plainSome {f fw fo fd_ : Addr} {fd fdw fdo fdd : FuncData} (T : Top K mg "_law_plain_some" sLPlainSome pLPlainSome f fd) (TW : Top K mg "_law_words" sLWords pLWords fw fdw) (TO : Top K mg "_law_one_of" sLOneOf ["purse", "some"] fo fdo) (TD : Top K mg "_law_draw" sLDraw ["purse", "many"] fd_ fdd)
    (GD : FnOk P w K mg base CX0 2 fd_ fdd ["purse", "many"] spDraw) (GO : FnOk P w K mg base CX0 3 fo fdo ["purse", "some"] spOneOf) (GW : FnOk P w K mg base CX0 4 fw fdw pLWords spWords) (B : Blt mg) : FnOk P w K mg base CX0 5 f fd pLPlainSome spPlainSome := by
  refine T.F.ok scLPlainSome (fun vs H Q E h => ?_) (fun cdv A outer s H vs Q E hr h => ?_)
  · obtain ⟨_, _, _, rfl, _⟩ := h
    rfl
  · obtain ⟨a, n, many, rfl, hp, hn, m1, m3, k⟩ := h
    have hr2 : Room 2 _ := hr.mono (by decide)
    have hr3 : Room 3 _ := hr.mono (by decide)
    refine ⟨_, (pss_cons (ps_set (i := 2) scLPlainSome.nd rfl (Or.inl rfl) (pe_call GW hr rfl TW.g TW.F.kp TW.b .nil pass0 (pa_cons (pv 0) (pa_cons (pv 1) pa_nil))))
      (pss_cons (ps_set (i := 3) scLPlainSome.nd rfl (Or.inl rfl) (pe_call GO hr3 rfl TO.g TO.F.kp TO.b .nil pass0 (pa_cons (pv 0) (pa_cons (pe_lst (pa_cons pe_str (pa_cons pe_str (pa_cons pe_str (pa_cons pe_str (pa_cons pe_str (pa_cons pe_str pa_nil))))))) pa_nil))))
      (pss_cons (ps_if (PW.pt (pw_and (pt_cmpR op_eq (pe_call GD hr2 rfl TD.g TD.F.kp TD.b .nil pass0 (pa_cons (pv 0) (pa_cons pe_int pa_nil))) pe_int (nomark _)) (pw_and1 (pt_cmpR op_notIn_seq (pv 3) (pv 2) (by rfl))))) (pss_one (ps_asg (pv 3) (pg_sub (pv 2) (pe_call GD hr2 rfl TD.g TD.F.kp TD.b .nil pass0 (pa_cons (pv 0) (pa_cons (pv 1) pa_nil))) set_list))) pss_nil)
      (pss_one (ps_ret (pv 2)))))), ?_⟩
    refine ⟨_, rfl, _, rfl, a, n, many, rfl, hp, by omega, m1, m3, fun L zs H1 hz nd hl kb1 nL eL hp1 => ?_⟩
    have nLa : L ≠ a := (hp.ne nL).symm
    have l6 : 6 ≤ sizeLine := by rw [sizeLine_eq]; omega
    refine ⟨_, rfl, l6, fun M nM => ?_⟩
    have sM := same_upd (o := .lst [.str "over", .str "under", .str "then", .str "is", .str "cut", .str "behind"]) nM
    have hp2 := hp1.upd (hp1.ne nM) (o := .lst [.str "over", .str "under", .str "then", .str "is", .str "cut", .str "behind"])
    refine ⟨a, M, _, _, rfl, hp2, by omega, (hp1.ne nM).symm, upd_same, by show 1 ≤ 6; omega, by show 6 < 1048576; omega, fun i x H3 hx off3 hp3 => ?_⟩
    obtain ⟨y, rfl, hy⟩ : ∃ y : Str, x = .str y ∧ IsW y := by
      match i, hx with
      | 0, hx => exact ⟨_, (Option.some.inj hx).symm, isWB_ok (by decide +kernel)⟩
      | 1, hx => exact ⟨_, (Option.some.inj hx).symm, isWB_ok (by decide +kernel)⟩
      | 2, hx => exact ⟨_, (Option.some.inj hx).symm, isWB_ok (by decide +kernel)⟩
      | 3, hx => exact ⟨_, (Option.some.inj hx).symm, isWB_ok (by decide +kernel)⟩
      | 4, hx => exact ⟨_, (Option.some.inj hx).symm, isWB_ok (by decide +kernel)⟩
      | 5, hx => exact ⟨_, (Option.some.inj hx).symm, isWB_ok (by decide +kernel)⟩
      | i + 6, hx => exact absurd hx (by simp)
    have kb3 : KeepBut a H1 H3 := (KeepBut.of_same sM).trans (.of_off off3)
    have eL3 := kb3 _ _ eL nLa
    have W0 : Wds zs := ⟨hz, by omega, by omega⟩
    refine ⟨_, rfl, a, _, 4, rfl, hp3, by omega, by omega, by omega, fun d4 H4 c0 c1 off4 hp4 => ⟨rfl, _, rfl, ?_⟩⟩
    have kb4 : KeepBut a H1 H4 := kb3.trans (.of_off off4)
    have eL4 := kb4 _ _ eL nLa
    have stay : Q (.ref L) H4 := k L zs H4 W0 (kb1.trans kb4) nLa eL4 (hp4.mono (by omega))
    refine ite2 (fun c => ?_) (fun c => ?_)
    · refine ⟨_, rfl, _, rfl, L, _, rfl, .inl (SqL.of eL4), rfl, flat_map zs, _, rfl, ?_⟩
      refine ite2 (fun c' => ?_) (fun c' => ⟨_, rfl, stay⟩)
      refine ⟨_, rfl, _, rfl, _, rfl, _, rfl, a, _, many, rfl, hp4, by omega, by omega, by omega, fun d5 H5 g0 g1 off5 hp5 => ?_⟩
      obtain ⟨j, rfl⟩ := Int.eq_ofNat_of_zero_le g0
      have hj : j < zs.length := by omega
      have eL5 : H5 L = some (.lst (zs.map V.str)) := by rw [off5 L nLa]; exact eL4
      have kb5 : KeepBut a H1 H5 := kb4.trans (.of_off off5)
      refine ⟨L, _, _, j, rfl, rfl, eL5, ?_, _, rfl, ?_⟩
      · rw [List.length_map]
        unfold ixN
        rw [if_pos (by omega), if_pos (by omega)]
        rfl
      have es : (zs.map V.str).set j (.str y) = (zs.set j y).map V.str := by rw [List.map_set]
      rw [es]
      have W1 : Wds (zs.set j y) := ⟨fun z hz' => by
        rcases List.mem_or_eq_of_mem_set hz' with q | q
        · exact hz z q
        · rw [q]; exact hy, by rw [List.length_set]; omega, by rw [List.length_set]; omega⟩
      have kbL : KeepBut a H (upd H5 L (.lst ((zs.set j y).map V.str))) := (kb1.trans kb5).upd_new nL
      exact k L _ _ W1 kbL nLa upd_same ((hp5.upd nLa.symm).mono (by omega))
    · exact iteF ⟨_, rfl, stay⟩
end
end Q4

namespace Q4
open PySem PySem.Spec PyProof.Rows L2 LamX KT
open PySem.W (Frag)
theorem Case.shape {j : Int} {ds : List D} {d : D} {row : List Ty} {goal : Ty} (h : Case j ds d row goal) : (j = 0 ∧ ds.length = 3) ∨ (j = 1 ∧ ds.length = 2) ∨ (j = 2 ∧ ds.length = 2) ∨ (j = 3 ∧ ds.length = 1) ∨ (j = 4 ∧ ds.length = 1) ∨ (j = 5 ∧ ds.length = 1) := by
  cases h <;> simp
section
variable {P : Program} {w : World} {K : Frag} {mg : Str → Option Value} {base : Heap}
structure NRs (P : Program) (w : World) (K : Frag) (mg : Str → Option Value) (base : Heap) (f0 f1 f2 f3 f4 f5 : Addr) (d0 d1 d2 d3 d4 d5 : FuncData) : Prop where
  T0 : Top K mg "raising" sRaising pRaising f0 d0
  T1 : Top K mg "composing" sComposing pComposing f1 d1
  T2 : Top K mg "dividing" sDividing pDividing f2 d2
  T3 : Top K mg "swapping" sSwapping pSwapping f3 d3
  T4 : Top K mg "parting" sParting pParting f4 d4
  T5 : Top K mg "packing" sPacking pPacking f5 d5
  G0 : FnOk P w K mg base CX0 4 f0 d0 pRaising (spN 0 3)
  G1 : FnOk P w K mg base CX0 4 f1 d1 pComposing (spN 1 2)
  G2 : FnOk P w K mg base CX0 4 f2 d2 pDividing (spN 2 2)
  G3 : FnOk P w K mg base CX0 4 f3 d3 pSwapping (spN 3 1)
  G4 : FnOk P w K mg base CX0 4 f4 d4 pParting (spN 4 1)
  G5 : FnOk P w K mg base CX0 4 f5 d5 pPacking (spN 5 1)
def spNmd : Sp := fun vs H Q _ => ∃ (j : Int) (L : Addr) (us : List V) (ds : List D) (d : D) (row : List Ty) (goal : Ty), vs = [.int j, .ref L] ∧ H L = some (.lst us) ∧ DsAt H us ds ∧ Case j ds d row goal ∧ (∀ e ∈ ds, e.dep ≤ 60 ∧ e.size ≤ 1000000) ∧ ∀ v' H', Same H H' → DAt H' v' d → Q v' H'
theorem ok_named {f f0 f1 f2 f3 f4 f5 : Addr} {fd d0 d1 d2 d3 d4 d5 : FuncData} (T : Top K mg "_law_named" sLNamed pLNamed f fd) (R : NRs P w K mg base f0 f1 f2 f3 f4 f5 d0 d1 d2 d3 d4 d5) : FnOk P w K mg base CX0 5 f fd pLNamed spNmd := by
  obtain ⟨T0, T1, T2, T3, T4, T5, G0, G1, G2, G3, G4, G5⟩ := R
  refine T.F.ok scLNamed (fun vs H Q E h => ?_) (fun cdv A outer s H vs Q E hr h => ?_)
  · obtain ⟨_, _, _, _, _, _, _, rfl, _⟩ := h
    rfl
  · obtain ⟨j, L, us, ds, d, row, goal, rfl, eL, hd, hc, hs, q⟩ := h
    refine ⟨_, (pss_cons (ps_if (pt_cmpR op_in_seq (pv 0) (pe_tup (pa_cons pe_int (pa_cons pe_int pa_nil))) (by rfl)) (pss_one (ps_ret (pe_ifExp (pt_cmpR op_eq (pv 0) pe_int (nomark _)) (pe_call G0 hr rfl T0.g T0.F.kp T0.b .nil pass0 (pa_cons (pe_ix ix_list (pv 1) pe_int (fun _ _ => rfl)) (pa_cons (pe_ix ix_list (pv 1) pe_int (fun _ _ => rfl)) (pa_cons (pe_ix ix_list (pv 1) pe_int (fun _ _ => rfl)) pa_nil)))) (pe_call G1 hr rfl T1.g T1.F.kp T1.b .nil pass0 (pa_cons (pe_ix ix_list (pv 1) pe_int (fun _ _ => rfl)) (pa_cons (pe_ix ix_list (pv 1) pe_int (fun _ _ => rfl)) pa_nil)))))) pss_nil)
      (pss_cons (ps_if (pt_cmpR op_in_seq (pv 0) (pe_tup (pa_cons pe_int (pa_cons pe_int pa_nil))) (by rfl)) (pss_one (ps_ret (pe_ifExp (pt_cmpR op_eq (pv 0) pe_int (nomark _)) (pe_call G2 hr rfl T2.g T2.F.kp T2.b .nil pass0 (pa_cons (pe_ix ix_list (pv 1) pe_int (fun _ _ => rfl)) (pa_cons (pe_ix ix_list (pv 1) pe_int (fun _ _ => rfl)) pa_nil))) (pe_call G3 hr rfl T3.g T3.F.kp T3.b .nil pass0 (pa_cons (pe_ix ix_list (pv 1) pe_int (fun _ _ => rfl)) pa_nil))))) pss_nil)
      (pss_one (ps_ret (pe_ifExp (pt_cmpR op_eq (pv 0) pe_int (nomark _)) (pe_call G4 hr rfl T4.g T4.F.kp T4.b .nil pass0 (pa_cons (pe_ix ix_list (pv 1) pe_int (fun _ _ => rfl)) pa_nil)) (pe_call G5 hr rfl T5.g T5.F.kp T5.b .nil pass0 (pa_cons (pe_ix ix_list (pv 1) pe_int (fun _ _ => rfl)) pa_nil))))))), ?_⟩
    have sz2 : 2 ≤ sizeLine := by rw [sizeLine_eq]; omega
    have ll := hd.length
    refine ⟨_, rfl, sz2, fun q7 n7 => ⟨q7, _, rfl, .inr (SqT.of upd_same), rfl, rfl, ?_⟩⟩
    have s7 := same_upd (o := .tup [.int 0, .int 1]) n7
    have eL7 := s7 _ _ eL
    have hd7 := hd.mono (TK.of_same s7)
    generalize upd H q7 _ = H7 at *
    rcases hc.shape with ⟨rfl, l⟩ | ⟨rfl, l⟩ | ⟨rfl, l⟩ | ⟨rfl, l⟩ | ⟨rfl, l⟩ | ⟨rfl, l⟩
    · rcases us with _ | ⟨u0, _ | ⟨u1, _ | ⟨u2, _ | ⟨u3, us⟩⟩⟩⟩
      · simp at ll; omega
      · simp at ll; omega
      · simp at ll; omega
      · refine ⟨true, congrArg V.bl (show _ = true by decide +kernel), iteT ⟨_, rfl, rfl, true, congrArg V.bl (decide_eq_true rfl), iteT ?_⟩⟩
        refine ⟨_, rfl, L, _, _, _, rfl, rfl, SqL.of eL7, atI_nat (j := 0) rfl, _, rfl, L, _, _, _, rfl, rfl, SqL.of eL7, atI_nat (j := 1) rfl, _, rfl, L, _, _, _, rfl, rfl, SqL.of eL7, atI_nat (j := 2) rfl, ?_⟩
        exact ⟨ds, d, row, goal, rfl, hd7, hc, hs, fun v' H' s' h' => q v' H' (s7.trans s') h'⟩
      · simp at ll; omega
    · rcases us with _ | ⟨u0, _ | ⟨u1, _ | ⟨u2, us⟩⟩⟩
      · simp at ll; omega
      · simp at ll; omega
      · refine ⟨true, congrArg V.bl (show _ = true by decide +kernel), iteT ⟨_, rfl, rfl, false, congrArg V.bl (decide_eq_false (by decide)), iteF ?_⟩⟩
        refine ⟨_, rfl, L, _, _, _, rfl, rfl, SqL.of eL7, atI_nat (j := 0) rfl, _, rfl, L, _, _, _, rfl, rfl, SqL.of eL7, atI_nat (j := 1) rfl, ?_⟩
        exact ⟨ds, d, row, goal, rfl, hd7, hc, hs, fun v' H' s' h' => q v' H' (s7.trans s') h'⟩
      · simp at ll; omega
    · rcases us with _ | ⟨u0, _ | ⟨u1, _ | ⟨u2, us⟩⟩⟩
      · simp at ll; omega
      · simp at ll; omega
      · refine ⟨false, congrArg V.bl (show _ = false by decide +kernel), iteF ?_⟩
        refine ⟨_, rfl, sz2, fun q8 n8 => ⟨q8, _, rfl, .inr (SqT.of upd_same), rfl, rfl, ?_⟩⟩
        have s8 := same_upd (o := .tup [.int 2, .int 3]) n8
        have eL8 := s8 _ _ eL7
        have hd8 := hd7.mono (TK.of_same s8)
        generalize upd H7 q8 _ = H8 at *
        refine ⟨true, congrArg V.bl (show _ = true by decide +kernel), iteT ⟨_, rfl, rfl, true, congrArg V.bl (decide_eq_true rfl), iteT ?_⟩⟩
        refine ⟨_, rfl, L, _, _, _, rfl, rfl, SqL.of eL8, atI_nat (j := 0) rfl, _, rfl, L, _, _, _, rfl, rfl, SqL.of eL8, atI_nat (j := 1) rfl, ?_⟩
        exact ⟨ds, d, row, goal, rfl, hd8, hc, hs, fun v' H' s' h' => q v' H' ((s7.trans s8).trans s') h'⟩
      · simp at ll; omega
    · rcases us with _ | ⟨u0, _ | ⟨u1, us⟩⟩
      · simp at ll; omega
      · refine ⟨false, congrArg V.bl (show _ = false by decide +kernel), iteF ?_⟩
        refine ⟨_, rfl, sz2, fun q8 n8 => ⟨q8, _, rfl, .inr (SqT.of upd_same), rfl, rfl, ?_⟩⟩
        have s8 := same_upd (o := .tup [.int 2, .int 3]) n8
        have eL8 := s8 _ _ eL7
        have hd8 := hd7.mono (TK.of_same s8)
        generalize upd H7 q8 _ = H8 at *
        refine ⟨true, congrArg V.bl (show _ = true by decide +kernel), iteT ⟨_, rfl, rfl, false, congrArg V.bl (decide_eq_false (by decide)), iteF ?_⟩⟩
        refine ⟨_, rfl, L, _, _, _, rfl, rfl, SqL.of eL8, atI_nat (j := 0) rfl, ?_⟩
        exact ⟨ds, d, row, goal, rfl, hd8, hc, hs, fun v' H' s' h' => q v' H' ((s7.trans s8).trans s') h'⟩
      · simp at ll; omega
    · rcases us with _ | ⟨u0, _ | ⟨u1, us⟩⟩
      · simp at ll; omega
      · refine ⟨false, congrArg V.bl (show _ = false by decide +kernel), iteF ?_⟩
        refine ⟨_, rfl, sz2, fun q8 n8 => ⟨q8, _, rfl, .inr (SqT.of upd_same), rfl, rfl, ?_⟩⟩
        have s8 := same_upd (o := .tup [.int 2, .int 3]) n8
        have eL8 := s8 _ _ eL7
        have hd8 := hd7.mono (TK.of_same s8)
        generalize upd H7 q8 _ = H8 at *
        refine ⟨false, congrArg V.bl (show _ = false by decide +kernel), iteF ⟨_, rfl, rfl, true, congrArg V.bl (decide_eq_true rfl), iteT ?_⟩⟩
        refine ⟨_, rfl, L, _, _, _, rfl, rfl, SqL.of eL8, atI_nat (j := 0) rfl, ?_⟩
        exact ⟨ds, d, row, goal, rfl, hd8, hc, hs, fun v' H' s' h' => q v' H' ((s7.trans s8).trans s') h'⟩
      · simp at ll; omega
    · rcases us with _ | ⟨u0, _ | ⟨u1, us⟩⟩
      · simp at ll; omega
      · refine ⟨false, congrArg V.bl (show _ = false by decide +kernel), iteF ?_⟩
        refine ⟨_, rfl, sz2, fun q8 n8 => ⟨q8, _, rfl, .inr (SqT.of upd_same), rfl, rfl, ?_⟩⟩
        have s8 := same_upd (o := .tup [.int 2, .int 3]) n8
        have eL8 := s8 _ _ eL7
        have hd8 := hd7.mono (TK.of_same s8)
        generalize upd H7 q8 _ = H8 at *
        refine ⟨false, congrArg V.bl (show _ = false by decide +kernel), iteF ⟨_, rfl, rfl, false, congrArg V.bl (decide_eq_false (by decide)), iteF ?_⟩⟩
        refine ⟨_, rfl, L, _, _, _, rfl, rfl, SqL.of eL8, atI_nat (j := 0) rfl, ?_⟩
        exact ⟨ds, d, row, goal, rfl, hd8, hc, hs, fun v' H' s' h' => q v' H' ((s7.trans s8).trans s') h'⟩
      · simp at ll; omega
/-! ### a derivation cut into another -/
def spCutIn : Sp := fun vs H Q _ => ∃ v1 v2 d1 d2 r1 g1 r2 g2, vs = [v1, v2, .int 0] ∧ DAt H v1 d1 ∧ DAt H v2 d2 ∧ d1.size ≤ 4000 ∧ d1.dep ≤ 60 ∧ d2.size ≤ 4000 ∧ d2.dep ≤ 60 ∧ d1.tl = some (r1, g1) ∧ d2.tl = some (g1 :: r2, g2) ∧ ∀ v' H', Same H H' → DAt H' v' (.t [.s "cut", .i 0, d1, d2]) → Q v' H'
end
end Q4

namespace Q4
open PySem PySem.Spec PyProof.Rows L2 LamX KT
open PySem.W (Frag)
theorem ty_dep_small (t : Ty) : t.d.dep ≤ t.signs ∧ t.d.size ≤ 4 * t.signs + 1 := by
  induction t with
  | w z => simp [Ty.d, D.dep, D.size, Ty.signs]
  | n g a b i j => simp only [Ty.d, D.dep, depAll, D.size, sizeAll, Ty.signs]; omega
theorem tys_of {H : Hp} : ∀ {ts : List Ty} {us : List V}, DsAt H us (ts.map Ty.d) → (∀ t ∈ ts, t.wok) → Tys H us ts
  | [], _, .nil, _ => .nil
  | t :: ts, _, .cons h r, hw => .cons (h.ty (t.ty_d (hw t List.mem_cons_self))) (tys_of r fun u hu => hw u (List.mem_cons_of_mem _ hu))
theorem Case.woks {j : Int} {ds : List D} {d : D} {row : List Ty} {goal : Ty} (h : Case j ds d row goal) : (∀ t ∈ row, t.wok) ∧ goal.wok := by
  cases h <;> simp_all [Ty.wok]
theorem Case.small {j : Int} {ds : List D} {d : D} {row : List Ty} {goal : Ty} (h : Case j ds d row goal) (hr : ∀ t ∈ row, t.signs ≤ 11) (hg : goal.signs ≤ 11) : (∀ e ∈ ds, e.dep ≤ 11 ∧ e.size ≤ 50) ∧ d.size ≤ 280 ∧ d.dep ≤ 30 := by
  have ty : ∀ t : Ty, t.signs ≤ 11 → t.d.dep ≤ 11 ∧ t.d.size ≤ 50 := fun t ht => by have := ty_dep_small t; omega
  have st : ∀ z : Str, (D.s z).dep ≤ 11 ∧ (D.s z).size ≤ 50 := fun z => by simp only [D.dep, D.size]; omega
  have big : ∀ a b c : Ty, a.signs ≤ 11 → b.signs ≤ 11 → c.signs ≤ 11 → (a.d.size ≤ 45 ∧ a.d.dep ≤ 11) ∧ (b.d.size ≤ 45 ∧ b.d.dep ≤ 11) ∧ (c.d.size ≤ 45 ∧ c.d.dep ≤ 11) := fun a b c h1 h2 h3 => by
    have q1 := ty_dep_small a
    have q2 := ty_dep_small b
    have q3 := ty_dep_small c
    omega
  cases h with
  | @r0 a b h1 h2 =>
    simp only [List.mem_singleton, forall_eq, Ty.signs] at hr hg
    obtain ⟨b1, b2, _⟩ := big a b a (by omega) (by omega) (by omega)
    refine ⟨fun e he => ?_, by simp only [D.size, sizeAll, D.dep, depAll]; omega⟩
    simp only [List.mem_cons, List.not_mem_nil, or_false] at he
    rcases he with rfl | rfl | rfl
    · omega
    · omega
    · exact st _
  | @r1 a b h1 h2 =>
    simp only [List.mem_singleton, forall_eq, Ty.signs] at hr hg
    obtain ⟨b1, b2, _⟩ := big a b a (by omega) (by omega) (by omega)
    refine ⟨fun e he => ?_, by simp only [D.size, sizeAll, D.dep, depAll]; omega⟩
    simp only [List.mem_cons, List.not_mem_nil, or_false] at he
    rcases he with rfl | rfl | rfl
    · omega
    · omega
    · exact st _
  | @c0 a b c h1 h2 h3 =>
    have q1 := hr (.n .ov a b) (by simp)
    have q2 := hr (.n .ov b c) (by simp)
    have z1 := ty (.n .ov a b) q1
    have z2 := ty (.n .ov b c) q2
    simp only [Ty.signs] at q1 q2 hg
    obtain ⟨b1, b2, b3⟩ := big a b c (by omega) (by omega) (by omega)
    refine ⟨fun e he => ?_, by simp only [D.size, sizeAll, D.dep, depAll]; omega⟩
    simp only [List.mem_cons, List.not_mem_nil, or_false] at he
    rcases he with rfl | rfl
    · exact z1
    · exact z2
  | @c1 a b c h1 h2 h3 =>
    have q1 := hr (.n .un c b) (by simp)
    have q2 := hr (.n .un b a) (by simp)
    have z1 := ty (.n .un c b) q1
    have z2 := ty (.n .un b a) q2
    simp only [Ty.signs] at q1 q2 hg
    obtain ⟨b1, b2, b3⟩ := big a b c (by omega) (by omega) (by omega)
    refine ⟨fun e he => ?_, by simp only [D.size, sizeAll, D.dep, depAll]; omega⟩
    simp only [List.mem_cons, List.not_mem_nil, or_false] at he
    rcases he with rfl | rfl
    · exact z1
    · exact z2
  | @d0 a b c h1 h2 h3 =>
    have q1 := hr (.n .ov a b) (by simp)
    have z1 := ty (.n .ov a b) q1
    simp only [Ty.signs] at q1 hg
    obtain ⟨b1, b2, b3⟩ := big a b c (by omega) (by omega) (by omega)
    have z2 := ty c (by omega)
    refine ⟨fun e he => ?_, by simp only [D.size, sizeAll, D.dep, depAll]; omega⟩
    simp only [List.mem_cons, List.not_mem_nil, or_false] at he
    rcases he with rfl | rfl
    · exact z1
    · exact z2
  | @d1 a b c h1 h2 h3 =>
    have q1 := hr (.n .un b a) (by simp)
    have z1 := ty (.n .un b a) q1
    simp only [Ty.signs] at q1 hg
    obtain ⟨b1, b2, b3⟩ := big a b c (by omega) (by omega) (by omega)
    have z2 := ty c (by omega)
    refine ⟨fun e he => ?_, by simp only [D.size, sizeAll, D.dep, depAll]; omega⟩
    simp only [List.mem_cons, List.not_mem_nil, or_false] at he
    rcases he with rfl | rfl
    · exact z1
    · exact z2
  | @s0 a b c h1 h2 h3 =>
    have q1 := hr (.n .ov (.n .un b a) c) (by simp)
    have z1 := ty (.n .ov (.n .un b a) c) q1
    simp only [Ty.signs] at q1 hg
    obtain ⟨b1, b2, b3⟩ := big a b c (by omega) (by omega) (by omega)
    refine ⟨fun e he => ?_, by simp only [D.size, sizeAll, D.dep, depAll]; omega⟩
    simp only [List.mem_cons, List.not_mem_nil, or_false] at he
    rcases he with rfl
    exact z1
  | @s1 a b c h1 h2 h3 =>
    have q1 := hr (.n .un b (.n .ov a c)) (by simp)
    have z1 := ty (.n .un b (.n .ov a c)) q1
    simp only [Ty.signs] at q1 hg
    obtain ⟨b1, b2, b3⟩ := big a b c (by omega) (by omega) (by omega)
    refine ⟨fun e he => ?_, by simp only [D.size, sizeAll, D.dep, depAll]; omega⟩
    simp only [List.mem_cons, List.not_mem_nil, or_false] at he
    rcases he with rfl
    exact z1
  | @p0 a b c h1 h2 h3 =>
    have q1 := hr (.n .ov a (.n .th b c)) (by simp)
    have z1 := ty (.n .ov a (.n .th b c)) q1
    simp only [Ty.signs] at q1 hg
    obtain ⟨b1, b2, b3⟩ := big a b c (by omega) (by omega) (by omega)
    refine ⟨fun e he => ?_, by simp only [D.size, sizeAll, D.dep, depAll]; omega⟩
    simp only [List.mem_cons, List.not_mem_nil, or_false] at he
    rcases he with rfl
    exact z1
  | @p1 a b c h1 h2 h3 =>
    have q1 := hr (.n .un (.n .th b c) a) (by simp)
    have z1 := ty (.n .un (.n .th b c) a) q1
    simp only [Ty.signs] at q1 hg
    obtain ⟨b1, b2, b3⟩ := big a b c (by omega) (by omega) (by omega)
    refine ⟨fun e he => ?_, by simp only [D.size, sizeAll, D.dep, depAll]; omega⟩
    simp only [List.mem_cons, List.not_mem_nil, or_false] at he
    rcases he with rfl
    exact z1
  | @k0 a b c h1 h2 h3 =>
    have q1 := hr (.n .ov (.n .ov a c) b) (by simp)
    have z1 := ty (.n .ov (.n .ov a c) b) q1
    simp only [Ty.signs] at q1 hg
    obtain ⟨b1, b2, b3⟩ := big a b c (by omega) (by omega) (by omega)
    refine ⟨fun e he => ?_, by simp only [D.size, sizeAll, D.dep, depAll]; omega⟩
    simp only [List.mem_cons, List.not_mem_nil, or_false] at he
    rcases he with rfl
    exact z1
  | @k1 a b c h1 h2 h3 =>
    have q1 := hr (.n .un c (.n .un b a)) (by simp)
    have z1 := ty (.n .un c (.n .un b a)) q1
    simp only [Ty.signs] at q1 hg
    obtain ⟨b1, b2, b3⟩ := big a b c (by omega) (by omega) (by omega)
    refine ⟨fun e he => ?_, by simp only [D.size, sizeAll, D.dep, depAll]; omega⟩
    simp only [List.mem_cons, List.not_mem_nil, or_false] at he
    rcases he with rfl
    exact z1
/-! ### the list of cases -/
def GoodC (ok : Addr → Prop) (H : Hp) (v : V) : Prop := ∃ (j : Int) (ds : List D) (d : D) (row : List Ty) (goal : Ty) (p A R : Addr) (g : V) (us ms : List V), v = .ref p ∧ ok p ∧ ok A ∧ ok R ∧ H p = some (.lst [.int j, .ref A, .ref R, g]) ∧ H A = some (.lst us) ∧ DsAt H us ds ∧ H R = some (.lst ms) ∧ Tys H ms row ∧ TyAt H g goal ∧
  Case j ds d row goal ∧ (∀ t ∈ row, t.signs ≤ 11) ∧ goal.signs ≤ 11
theorem GoodC.mono {ok ok' : Addr → Prop} {H H' : Hp} {v : V} (h : GoodC ok H v) (i : ∀ a, ok a → ok' a) (k : ∀ b o, ok b → H b = some o → H' b = some o) (t : TK H H') : GoodC ok' H' v := by
  obtain ⟨j, ds, d, row, goal, p, A, R, g, us, ms, rfl, o1, o2, o3, e1, e2, h1, e3, h2, h3, c⟩ := h
  exact ⟨j, ds, d, row, goal, p, A, R, g, us, ms, rfl, i _ o1, i _ o2, i _ o3, k _ _ o1 e1, k _ _ o2 e2, h1.mono t, k _ _ o3 e3, h2.mono t, h3.mono t, c⟩
theorem GoodC.same {ok : Addr → Prop} {H H' : Hp} {v : V} (h : GoodC ok H v) (s : Same H H') : GoodC ok H' v := h.mono (fun _ h => h) (fun b o _ e => s b o e) (TK.of_same s)
theorem GoodC.imp {ok ok' : Addr → Prop} {H : Hp} {v : V} (h : GoodC ok H v) (i : ∀ a, ok a → ok' a) : GoodC ok' H v := h.mono i (fun _ _ _ e => e) (TK.refl H)
theorem GoodC.upd {H : Hp} {v : V} {L : Addr} {xs ys : List V} (h : GoodC (· ≠ L) H v) (e : H L = some (.lst xs)) : GoodC (· ≠ L) (upd H L (.lst ys)) v := h.mono (fun _ h => h) (fun b o n q => by rw [upd_ne n]; exact q) (TK.upd_lst e)
/-- an expression that comes to a case, in new objects -/
def YC (t : TE) (σ : L2.St) (H0 : Hp) : Prop := ∀ H, Same H0 H → ∀ Q : VK, (∀ v H', Same H H' → GoodC (fun x => H x = none) H' v → Q v H') → t σ H Q
theorem yc_mk {ta tr : TA} {tg : TE} {σ : L2.St} {H0 : Hp} {j : Int} {ds : List D} {d : D} {row : List Ty} {goal : Ty} (c : Case j ds d row goal) (h1 : YdA ta σ H0 ds) (h2 : YdA tr σ H0 (row.map Ty.d)) (h3 : Yd tg σ H0 goal.d) (l1 : ds.length ≤ 100) (l2 : (row.map Ty.d).length ≤ 100) (b1 : ∀ t ∈ row, t.signs ≤ 11) (b2 : goal.signs ≤ 11) : YC (tLst (tCons (tC (.int j)) (tCons (tLst ta) (tCons (tLst tr) (tCons tg tNil))))) σ H0 := fun H s Q q => by
  obtain ⟨wr, wg⟩ := c.woks
  have q' : tLst ta σ H (fun A H1 => tLst tr σ H1 fun R H2 => tg σ H2 fun g H3 => [V.int j, A, R, g].length ≤ sizeLine ∧ ∀ p, H3 p = none → Q (.ref p) (upd H3 p (.lst [.int j, A, R, g]))) := ?_
  · exact q'
  refine yda_lst h1 s l1 fun A us H1 s1 nA eA hus => yda_lst h2 (s.trans s1) l2 fun R ms H2 s2 nR eR hms => h3 H2 ((s.trans s1).trans s2) _ fun g H3 s3 hg => ⟨by show 4 ≤ sizeLine; rw [sizeLine_eq]; omega, fun p np => ?_⟩
  have sp := same_upd (o := .lst [.int j, .ref A, .ref R, g]) np
  have s12 := s1.trans s2
  have s13 := s12.trans s3
  refine q _ _ (s13.trans sp) ⟨j, ds, d, row, goal, p, A, R, g, us, ms, rfl, s13.free np, nA, s1.free nR, upd_same, ((s2.trans s3).trans sp) _ _ eA, hus.mono (TK.of_same ((s2.trans s3).trans sp)), (s3.trans sp) _ _ eR, (tys_of hms wr).mono (TK.of_same (s3.trans sp)), (hg.ty (goal.ty_d wg)).mono (TK.of_same sp), c, b1, b2⟩
theorem yc_lst2 {t u : TE} {σ : L2.St} {H0 H : Hp} {Q : VK} (h : YC t σ H0) (h' : YC u σ H0) (s : Same H0 H) (q : ∀ (L : Addr) v w H', Same H H' → H L = none → H' L = some (.lst [v, w]) → GoodC (fun x => H x = none ∧ x ≠ L) H' v → GoodC (fun x => H x = none ∧ x ≠ L) H' w → Q (.ref L) H') : tLst (tCons t (tCons u tNil)) σ H Q :=
  h H s _ fun v H1 s1 gv => h' H1 (s.trans s1) _ fun w H2 s2 gw => ⟨by show 2 ≤ sizeLine; rw [sizeLine_eq]; omega, fun L nL => by
    have sL := same_upd (o := .lst [v, w]) nL
    have neL : ∀ {x : Addr} {o : HO}, H2 x = some o → x ≠ L := fun e z => by rw [z, nL] at e; cases e
    have up : ∀ {y : V} {ok : Addr → Prop}, GoodC ok H2 y → GoodC (fun x => ok x ∧ x ≠ L) (upd H2 L (.lst [v, w])) y := fun {y ok} g => by
      obtain ⟨j, ds, d, row, goal, p, A, R, g0, us, ms, rfl, o1, o2, o3, e1, e2, h1, e3, h2, h3, c⟩ := g
      exact ⟨j, ds, d, row, goal, p, A, R, g0, us, ms, rfl, ⟨o1, neL e1⟩, ⟨o2, neL e2⟩, ⟨o3, neL e3⟩, sL _ _ e1, sL _ _ e2, h1.mono (TK.of_same sL), sL _ _ e3, h2.mono (TK.of_same sL), h3.mono (TK.of_same sL), c⟩
    exact q L v w _ ((s1.trans s2).trans sL) ((s1.trans s2).free nL) upd_same ((up (gv.same s2))) ((up gw).imp fun a h => ⟨s1.free h.1, h.2⟩)⟩
theorem yda_par {ta : TA} {i j : Nat} {u : TS} {D0 : L2.Ends} {σ : L2.St} {H H0 : Hp} {d e : D} (y : YdA ta σ H0 [d, e]) (s : Same H0 H) (q : ∀ v w H', Same H H' → DAt H' v d → DAt H' w e → u D0 ((σ.set i (some v)).set j (some w)) H') : tSeq (tPar i j ta) u D0 σ H := y H s _ fun vs H' s' hvs => by
  obtain ⟨v, w, rfl, a, b⟩ := dsAt2 hvs
  exact ⟨v, w, rfl, q v w H' s' a b⟩
section
variable {P : Program} {w : World} {K : Frag} {mg : Str → Option Value} {base : Heap}
theorem yc_app {to t : TE} {u : TS} {D0 : L2.Ends} {σ : L2.St} {H H0 : Hp} {L : Addr} {vs : List V} (h : YC t σ H0) (s : Same H0 H) (ho : σ[3]? = some (some (.ref L))) (eto : to = tVar 3) (e : H L = some (.lst vs)) (lv : vs.length ≤ 100) (q : ∀ v H1, Same H H1 → H1 L = some (.lst vs) → GoodC (· ≠ L) H1 v → u D0 σ (upd H1 L (.lst (vs ++ [v])))) : tSeq (tDrop (tBM K "list" rAppend to (tCons t tNil))) u D0 σ H := by
  subst eto
  refine ⟨_, ho, .inl ⟨rfl, _, SqL.of e⟩, h H s _ fun v H1 s1 g => ?_⟩
  exact ⟨L, vs, v, rfl, rfl, s1 _ _ e, by rw [sizeLine_eq]; omega, q v H1 s1 (s1 _ _ e) (g.imp fun a ha z => by rw [z, e] at ha; cases ha)⟩
end
end Q4

namespace Q4
open PySem PySem.Spec PyProof.Rows L2 LamX KT
open PySem.W (Frag)
section
variable {P : Program} {w : World} {K : Frag} {mg : Str → Option Value} {base : Heap}
theorem yc_set2 {t u : TE} {i : Nat} {w0 : TS} {D0 : L2.Ends} {σ : L2.St} {H0 H : Hp} (h : YC t σ H0) (h' : YC u σ H0) (s : Same H0 H) (q : ∀ (L : Addr) v w H', Same H H' → H L = none → H' L = some (.lst [v, w]) → GoodC (fun x => H x = none ∧ x ≠ L) H' v → GoodC (fun x => H x = none ∧ x ≠ L) H' w → w0 D0 (σ.set i (some (.ref L))) H') : tSeq (tAsg (tLst (tCons t (tCons u tNil))) (gName i)) w0 D0 σ H := by
  have z := yc_lst2 (Q := fun v H' => w0 D0 (σ.set i (some v)) H') h h' s q
  exact z
theorem yc_cat {t u : TE} {σ : L2.St} {H0 H : Hp} {Q : VK} {L : Addr} {vs : List V} (h : YC t σ H0) (h' : YC u σ H0) (s : Same H0 H) (e3 : σ[3]? = some (some (.ref L))) (e : H L = some (.lst vs)) (lv : vs.length ≤ 100) (g : ∀ v ∈ vs, GoodC (fun _ => True) H v) (q : ∀ (M : Addr) v w H', Same H H' → H' M = some (.lst (vs ++ [v, w])) → (∀ y ∈ vs ++ [v, w], GoodC (fun _ => True) H' y) → Q (.ref M) H') : tOp rCat (tVar 3) (tLst (tCons t (tCons u tNil))) σ H Q := by
  refine ⟨_, e3, ?_⟩
  refine yc_lst2 h h' s fun N v w H1 s1 nN eN gv gw => ⟨L, N, vs, [v, w], rfl, rfl, s1 _ _ e, eN, by rw [sizeLine_eq]; simp only [List.length_cons, List.length_nil]; omega, fun M nM => ?_⟩
  have sM := same_upd (o := .lst (vs ++ [v, w])) nM
  refine q M v w _ (s1.trans sM) upd_same fun y hy => ?_
  rcases List.mem_append.mp hy with hy | hy
  · exact (g y hy).same (s1.trans sM)
  · simp only [List.mem_cons, List.not_mem_nil, or_false] at hy
    rcases hy with rfl | rfl
    · exact (gv.imp fun _ _ => trivial).same sM
    · exact (gw.imp fun _ _ => trivial).same sM
theorem yc_catSet {t u : TE} {w0 : TS} {D0 : L2.Ends} {σ : L2.St} {H0 H : Hp} {L : Addr} {vs : List V} (h : YC t σ H0) (h' : YC u σ H0) (s : Same H0 H) (e3 : σ[3]? = some (some (.ref L))) (e : H L = some (.lst vs)) (lv : vs.length ≤ 100) (g : ∀ v ∈ vs, GoodC (fun _ => True) H v) (q : ∀ (M : Addr) v w H', Same H H' → H' M = some (.lst (vs ++ [v, w])) → (∀ y ∈ vs ++ [v, w], GoodC (fun _ => True) H' y) → w0 D0 (σ.set 3 (some (.ref M))) H') : tSeq (tAsg (tOp rCat (tVar 3) (tLst (tCons t (tCons u tNil)))) (gName 3)) w0 D0 σ H := by
  have z := yc_cat (Q := fun v H' => w0 D0 (σ.set 3 (some v)) H') h h' s e3 e lv g q
  exact z
theorem yc_catRet {t u : TE} {D0 : L2.Ends} {σ : L2.St} {H0 H : Hp} {L : Addr} {vs : List V} (h : YC t σ H0) (h' : YC u σ H0) (s : Same H0 H) (e3 : σ[3]? = some (some (.ref L))) (e : H L = some (.lst vs)) (lv : vs.length ≤ 100) (g : ∀ v ∈ vs, GoodC (fun _ => True) H v) (q : ∀ (M : Addr) v w H', Same H H' → H' M = some (.lst (vs ++ [v, w])) → (∀ y ∈ vs ++ [v, w], GoodC (fun _ => True) H' y) → D0.rt (.ref M) H') : tRet (tOp rCat (tVar 3) (tLst (tCons t (tCons u tNil)))) D0 σ H := by
  have z := yc_cat (Q := D0.rt) h h' s e3 e lv g q
  exact z
def spCases : Sp := fun vs H Q _ => ∃ va vb vc a b c, vs = [va, vb, vc] ∧ TyAt H va a ∧ TyAt H vb b ∧ TyAt H vc c ∧ a.signs ≤ 2 ∧ b.signs ≤ 2 ∧ c.signs ≤ 2 ∧ ∀ (L : Addr) (us : List V) H', Same H H' → H' L = some (.lst us) → us.length ≤ 20 → (∀ v ∈ us, GoodC (fun _ => True) H' v) → Q (.ref L) H'
theorem ok_cases {f : Addr} {fd : FuncData} (T : Top K mg "_law_cases" sLCases pLCases f fd) : FnOk P w K mg base CX0 1 f fd pLCases spCases := by
  refine T.F.ok scLCases (fun vs H Q E h => ?_) (fun cdv A outer s H vs Q E hr h => ?_)
  · obtain ⟨_, _, _, _, _, _, rfl, _⟩ := h
    rfl
  · obtain ⟨va, vb, vc, a, b, c, rfl, ha, hb, hc, sa, sb, sc, q⟩ := h
    refine ⟨_, (pss_cons (ps_set (i := 3) scLCases.nd rfl (Or.inl rfl) (pe_lst (pa_cons (pe_lst (pa_cons pe_int (pa_cons (pe_lst (pa_cons (pv 0) (pa_cons (pv 1) (pa_cons pe_str pa_nil)))) (pa_cons (pe_lst (pa_cons (pv 0) pa_nil)) (pa_cons (pe_tup (pa_cons pe_str (pa_cons (pv 1) (pa_cons (pe_tup (pa_cons pe_str (pa_cons (pv 0) (pa_cons (pv 1) pa_nil)))) pa_nil)))) pa_nil))))) (pa_cons (pe_lst (pa_cons pe_int (pa_cons (pe_lst (pa_cons (pv 0) (pa_cons (pv 1) (pa_cons pe_str pa_nil)))) (pa_cons (pe_lst (pa_cons (pv 0) pa_nil)) (pa_cons (pe_tup (pa_cons pe_str (pa_cons (pe_tup (pa_cons pe_str (pa_cons (pv 1) (pa_cons (pv 0) pa_nil)))) (pa_cons (pv 1) pa_nil)))) pa_nil))))) pa_nil))))
      (pss_cons (ps_expr (pe_bm PySem.F.plainAttrs_list PySem.F.slot_list_append PySem.F.type_list_append mt_append (pv 3) (pa_cons (pe_lst (pa_cons pe_int (pa_cons (pe_lst (pa_cons (pe_tup (pa_cons pe_str (pa_cons (pv 0) (pa_cons (pv 1) pa_nil)))) (pa_cons (pe_tup (pa_cons pe_str (pa_cons (pv 1) (pa_cons (pv 2) pa_nil)))) pa_nil))) (pa_cons (pe_lst (pa_cons (pe_tup (pa_cons pe_str (pa_cons (pv 0) (pa_cons (pv 1) pa_nil)))) (pa_cons (pe_tup (pa_cons pe_str (pa_cons (pv 1) (pa_cons (pv 2) pa_nil)))) pa_nil))) (pa_cons (pe_tup (pa_cons pe_str (pa_cons (pv 0) (pa_cons (pv 2) pa_nil)))) pa_nil))))) pa_nil)))
      (pss_cons (ps_expr (pe_bm PySem.F.plainAttrs_list PySem.F.slot_list_append PySem.F.type_list_append mt_append (pv 3) (pa_cons (pe_lst (pa_cons pe_int (pa_cons (pe_lst (pa_cons (pe_tup (pa_cons pe_str (pa_cons (pv 2) (pa_cons (pv 1) pa_nil)))) (pa_cons (pe_tup (pa_cons pe_str (pa_cons (pv 1) (pa_cons (pv 0) pa_nil)))) pa_nil))) (pa_cons (pe_lst (pa_cons (pe_tup (pa_cons pe_str (pa_cons (pv 2) (pa_cons (pv 1) pa_nil)))) (pa_cons (pe_tup (pa_cons pe_str (pa_cons (pv 1) (pa_cons (pv 0) pa_nil)))) pa_nil))) (pa_cons (pe_tup (pa_cons pe_str (pa_cons (pv 2) (pa_cons (pv 0) pa_nil)))) pa_nil))))) pa_nil)))
      (pss_cons (ps_expr (pe_bm PySem.F.plainAttrs_list PySem.F.slot_list_append PySem.F.type_list_append mt_append (pv 3) (pa_cons (pe_lst (pa_cons pe_int (pa_cons (pe_lst (pa_cons (pe_tup (pa_cons pe_str (pa_cons (pv 0) (pa_cons (pv 1) pa_nil)))) (pa_cons (pv 2) pa_nil))) (pa_cons (pe_lst (pa_cons (pe_tup (pa_cons pe_str (pa_cons (pv 0) (pa_cons (pv 1) pa_nil)))) pa_nil)) (pa_cons (pe_tup (pa_cons pe_str (pa_cons (pe_tup (pa_cons pe_str (pa_cons (pv 0) (pa_cons (pv 2) pa_nil)))) (pa_cons (pe_tup (pa_cons pe_str (pa_cons (pv 1) (pa_cons (pv 2) pa_nil)))) pa_nil)))) pa_nil))))) pa_nil)))
      (pss_cons (ps_expr (pe_bm PySem.F.plainAttrs_list PySem.F.slot_list_append PySem.F.type_list_append mt_append (pv 3) (pa_cons (pe_lst (pa_cons pe_int (pa_cons (pe_lst (pa_cons (pe_tup (pa_cons pe_str (pa_cons (pv 1) (pa_cons (pv 0) pa_nil)))) (pa_cons (pv 2) pa_nil))) (pa_cons (pe_lst (pa_cons (pe_tup (pa_cons pe_str (pa_cons (pv 1) (pa_cons (pv 0) pa_nil)))) pa_nil)) (pa_cons (pe_tup (pa_cons pe_str (pa_cons (pe_tup (pa_cons pe_str (pa_cons (pv 2) (pa_cons (pv 1) pa_nil)))) (pa_cons (pe_tup (pa_cons pe_str (pa_cons (pv 2) (pa_cons (pv 0) pa_nil)))) pa_nil)))) pa_nil))))) pa_nil)))
      (pss_cons (ps_par (i := 4) (j := 5) rfl scLCases.nd rfl rfl (by decide) rfl rfl (pa_cons (pe_tup (pa_cons pe_str (pa_cons (pe_tup (pa_cons pe_str (pa_cons (pv 1) (pa_cons (pv 0) pa_nil)))) (pa_cons (pv 2) pa_nil)))) (pa_cons (pe_tup (pa_cons pe_str (pa_cons (pv 1) (pa_cons (pe_tup (pa_cons pe_str (pa_cons (pv 0) (pa_cons (pv 2) pa_nil)))) pa_nil)))) pa_nil)) (by rfl))
      (pss_cons (ps_set (i := 3) scLCases.nd rfl (Or.inl rfl) (pe_op op_cat (pv 3) (pe_lst (pa_cons (pe_lst (pa_cons pe_int (pa_cons (pe_lst (pa_cons (pv 4) pa_nil)) (pa_cons (pe_lst (pa_cons (pv 4) pa_nil)) (pa_cons (pv 5) pa_nil))))) (pa_cons (pe_lst (pa_cons pe_int (pa_cons (pe_lst (pa_cons (pv 5) pa_nil)) (pa_cons (pe_lst (pa_cons (pv 5) pa_nil)) (pa_cons (pv 4) pa_nil))))) pa_nil)))))
      (pss_cons (ps_par (i := 6) (j := 7) rfl scLCases.nd rfl rfl (by decide) rfl rfl (pa_cons (pe_tup (pa_cons pe_str (pa_cons (pv 0) (pa_cons (pe_tup (pa_cons pe_str (pa_cons (pv 1) (pa_cons (pv 2) pa_nil)))) pa_nil)))) (pa_cons (pe_tup (pa_cons pe_str (pa_cons (pe_tup (pa_cons pe_str (pa_cons (pv 0) (pa_cons (pv 2) pa_nil)))) (pa_cons (pv 1) pa_nil)))) pa_nil)) (by rfl))
      (pss_cons (ps_set (i := 3) scLCases.nd rfl (Or.inl rfl) (pe_op op_cat (pv 3) (pe_lst (pa_cons (pe_lst (pa_cons pe_int (pa_cons (pe_lst (pa_cons (pv 6) pa_nil)) (pa_cons (pe_lst (pa_cons (pv 6) pa_nil)) (pa_cons (pv 7) pa_nil))))) (pa_cons (pe_lst (pa_cons pe_int (pa_cons (pe_lst (pa_cons (pv 7) pa_nil)) (pa_cons (pe_lst (pa_cons (pv 7) pa_nil)) (pa_cons (pv 6) pa_nil))))) pa_nil)))))
      (pss_cons (ps_par (i := 6) (j := 7) rfl scLCases.nd rfl rfl (by decide) rfl rfl (pa_cons (pe_tup (pa_cons pe_str (pa_cons (pe_tup (pa_cons pe_str (pa_cons (pv 1) (pa_cons (pv 2) pa_nil)))) (pa_cons (pv 0) pa_nil)))) (pa_cons (pe_tup (pa_cons pe_str (pa_cons (pv 2) (pa_cons (pe_tup (pa_cons pe_str (pa_cons (pv 1) (pa_cons (pv 0) pa_nil)))) pa_nil)))) pa_nil)) (by rfl))
      (pss_one (ps_ret (pe_op op_cat (pv 3) (pe_lst (pa_cons (pe_lst (pa_cons pe_int (pa_cons (pe_lst (pa_cons (pv 6) pa_nil)) (pa_cons (pe_lst (pa_cons (pv 6) pa_nil)) (pa_cons (pv 7) pa_nil))))) (pa_cons (pe_lst (pa_cons pe_int (pa_cons (pe_lst (pa_cons (pv 7) pa_nil)) (pa_cons (pe_lst (pa_cons (pv 7) pa_nil)) (pa_cons (pv 6) pa_nil))))) pa_nil)))))))))))))))), ?_⟩
    have wa := ha.wok
    have wb := hb.wok
    have wc := hc.wok
    have ya : ∀ {σ : L2.St} {H' : Hp}, σ[0]? = some (some va) → TK H H' → Yd (tVar 0) σ H' a.d := fun e t => yd_var e (ha.mono t).d
    have yb : ∀ {σ : L2.St} {H' : Hp}, σ[1]? = some (some vb) → TK H H' → Yd (tVar 1) σ H' b.d := fun e t => yd_var e (hb.mono t).d
    have yc : ∀ {σ : L2.St} {H' : Hp}, σ[2]? = some (some vc) → TK H H' → Yd (tVar 2) σ H' c.d := fun e t => yd_var e (hc.mono t).d
    have ys : ∀ {σ : L2.St} {H' : Hp} {z : Str}, TxtOk z → Yd (tC (.str z)) σ H' (.s z) := fun h => yd_str h
    refine yc_set2 (yc_mk (.r0 wa wb) (yda3 (ya (by rfl) (TK.refl H)) (yb (by rfl) (TK.refl H)) (yd_str tx_over)) (yda1 (ya (by rfl) (TK.refl H))) (yt3 (d := Ty.d b) (e := Ty.d (Ty.n .un a b)) tx_over (yb (by rfl) (TK.refl H)) (yt3 (d := Ty.d a) (e := Ty.d b) tx_under (ya (by rfl) (TK.refl H)) (yb (by rfl) (TK.refl H)))) (by simp) (by simp) (by simp [Ty.signs] <;> omega) (by simp [Ty.signs] <;> omega)) (yc_mk (.r1 wa wb) (yda3 (ya (by rfl) (TK.refl H)) (yb (by rfl) (TK.refl H)) (yd_str tx_under)) (yda1 (ya (by rfl) (TK.refl H))) (yt3 (d := Ty.d (Ty.n .ov b a)) (e := Ty.d b) tx_under (yt3 (d := Ty.d b) (e := Ty.d a) tx_over (yb (by rfl) (TK.refl H)) (ya (by rfl) (TK.refl H))) (yb (by rfl) (TK.refl H))) (by simp) (by simp) (by simp [Ty.signs] <;> omega) (by simp [Ty.signs] <;> omega)) (Same.refl H) fun L v0 v1 H1 s1 nL eL g0 g1 => ?_
    have g0 := g0.imp (ok' := (· ≠ L)) fun _ h => h.2
    have g1 := g1.imp (ok' := (· ≠ L)) fun _ h => h.2
    have t1 := TK.of_same s1
    have sH1 := s1
    refine yc_app (vs := [v0, v1]) (yc_mk (.c0 wa wb wc) (yda2 (yt3 (d := Ty.d a) (e := Ty.d b) tx_over (ya (by rfl) t1) (yb (by rfl) t1)) (yt3 (d := Ty.d b) (e := Ty.d c) tx_over (yb (by rfl) t1) (yc (by rfl) t1))) (yda2 (yt3 (d := Ty.d a) (e := Ty.d b) tx_over (ya (by rfl) t1) (yb (by rfl) t1)) (yt3 (d := Ty.d b) (e := Ty.d c) tx_over (yb (by rfl) t1) (yc (by rfl) t1))) (yt3 (d := Ty.d a) (e := Ty.d c) tx_over (ya (by rfl) t1) (yc (by rfl) t1)) (by simp) (by simp) (by simp [Ty.signs] <;> omega) (by simp [Ty.signs] <;> omega)) (Same.refl H1) (by rfl) rfl eL (by simp) fun v2 X2 x2 f2 g2 => ?_
    have t2 : TK H (upd X2 L (.lst ([v0, v1] ++ [v2]))) := (TK.trans t1 (TK.of_same x2)).trans (TK.upd_lst f2)
    have sH2 : Same H (upd X2 L (.lst ([v0, v1] ++ [v2]))) := same_over (sH1.trans x2) nL
    have g0 := (g0.same x2).upd (ys := [v0, v1] ++ [v2]) f2
    have g1 := (g1.same x2).upd (ys := [v0, v1] ++ [v2]) f2
    have g2 := g2.upd (ys := [v0, v1] ++ [v2]) f2
    have eL2 : upd X2 L (.lst ([v0, v1] ++ [v2])) L = some (.lst [v0, v1, v2]) := upd_same
    generalize upd X2 L (.lst ([v0, v1] ++ [v2])) = H2 at *
    refine yc_app (vs := [v0, v1, v2]) (yc_mk (.c1 wa wb wc) (yda2 (yt3 (d := Ty.d c) (e := Ty.d b) tx_under (yc (by rfl) t2) (yb (by rfl) t2)) (yt3 (d := Ty.d b) (e := Ty.d a) tx_under (yb (by rfl) t2) (ya (by rfl) t2))) (yda2 (yt3 (d := Ty.d c) (e := Ty.d b) tx_under (yc (by rfl) t2) (yb (by rfl) t2)) (yt3 (d := Ty.d b) (e := Ty.d a) tx_under (yb (by rfl) t2) (ya (by rfl) t2))) (yt3 (d := Ty.d c) (e := Ty.d a) tx_under (yc (by rfl) t2) (ya (by rfl) t2)) (by simp) (by simp) (by simp [Ty.signs] <;> omega) (by simp [Ty.signs] <;> omega)) (Same.refl H2) (by rfl) rfl eL2 (by simp) fun v3 X3 x3 f3 g3 => ?_
    have t3 : TK H (upd X3 L (.lst ([v0, v1, v2] ++ [v3]))) := (TK.trans t2 (TK.of_same x3)).trans (TK.upd_lst f3)
    have sH3 : Same H (upd X3 L (.lst ([v0, v1, v2] ++ [v3]))) := same_over (sH2.trans x3) nL
    have g0 := (g0.same x3).upd (ys := [v0, v1, v2] ++ [v3]) f3
    have g1 := (g1.same x3).upd (ys := [v0, v1, v2] ++ [v3]) f3
    have g2 := (g2.same x3).upd (ys := [v0, v1, v2] ++ [v3]) f3
    have g3 := g3.upd (ys := [v0, v1, v2] ++ [v3]) f3
    have eL3 : upd X3 L (.lst ([v0, v1, v2] ++ [v3])) L = some (.lst [v0, v1, v2, v3]) := upd_same
    generalize upd X3 L (.lst ([v0, v1, v2] ++ [v3])) = H3 at *
    refine yc_app (vs := [v0, v1, v2, v3]) (yc_mk (.d0 wa wb wc) (yda2 (yt3 (d := Ty.d a) (e := Ty.d b) tx_over (ya (by rfl) t3) (yb (by rfl) t3)) (yc (by rfl) t3)) (yda1 (yt3 (d := Ty.d a) (e := Ty.d b) tx_over (ya (by rfl) t3) (yb (by rfl) t3))) (yt3 (d := Ty.d (Ty.n .ov a c)) (e := Ty.d (Ty.n .ov b c)) tx_over (yt3 (d := Ty.d a) (e := Ty.d c) tx_over (ya (by rfl) t3) (yc (by rfl) t3)) (yt3 (d := Ty.d b) (e := Ty.d c) tx_over (yb (by rfl) t3) (yc (by rfl) t3))) (by simp) (by simp) (by simp [Ty.signs] <;> omega) (by simp [Ty.signs] <;> omega)) (Same.refl H3) (by rfl) rfl eL3 (by simp) fun v4 X4 x4 f4 g4 => ?_
    have t4 : TK H (upd X4 L (.lst ([v0, v1, v2, v3] ++ [v4]))) := (TK.trans t3 (TK.of_same x4)).trans (TK.upd_lst f4)
    have sH4 : Same H (upd X4 L (.lst ([v0, v1, v2, v3] ++ [v4]))) := same_over (sH3.trans x4) nL
    have g0 := (g0.same x4).upd (ys := [v0, v1, v2, v3] ++ [v4]) f4
    have g1 := (g1.same x4).upd (ys := [v0, v1, v2, v3] ++ [v4]) f4
    have g2 := (g2.same x4).upd (ys := [v0, v1, v2, v3] ++ [v4]) f4
    have g3 := (g3.same x4).upd (ys := [v0, v1, v2, v3] ++ [v4]) f4
    have g4 := g4.upd (ys := [v0, v1, v2, v3] ++ [v4]) f4
    have eL4 : upd X4 L (.lst ([v0, v1, v2, v3] ++ [v4])) L = some (.lst [v0, v1, v2, v3, v4]) := upd_same
    generalize upd X4 L (.lst ([v0, v1, v2, v3] ++ [v4])) = H4 at *
    refine yc_app (vs := [v0, v1, v2, v3, v4]) (yc_mk (.d1 wa wb wc) (yda2 (yt3 (d := Ty.d b) (e := Ty.d a) tx_under (yb (by rfl) t4) (ya (by rfl) t4)) (yc (by rfl) t4)) (yda1 (yt3 (d := Ty.d b) (e := Ty.d a) tx_under (yb (by rfl) t4) (ya (by rfl) t4))) (yt3 (d := Ty.d (Ty.n .un c b)) (e := Ty.d (Ty.n .un c a)) tx_under (yt3 (d := Ty.d c) (e := Ty.d b) tx_under (yc (by rfl) t4) (yb (by rfl) t4)) (yt3 (d := Ty.d c) (e := Ty.d a) tx_under (yc (by rfl) t4) (ya (by rfl) t4))) (by simp) (by simp) (by simp [Ty.signs] <;> omega) (by simp [Ty.signs] <;> omega)) (Same.refl H4) (by rfl) rfl eL4 (by simp) fun v5 X5 x5 f5 g5 => ?_
    have t5 : TK H (upd X5 L (.lst ([v0, v1, v2, v3, v4] ++ [v5]))) := (TK.trans t4 (TK.of_same x5)).trans (TK.upd_lst f5)
    have sH5 : Same H (upd X5 L (.lst ([v0, v1, v2, v3, v4] ++ [v5]))) := same_over (sH4.trans x5) nL
    have g0 := (g0.same x5).upd (ys := [v0, v1, v2, v3, v4] ++ [v5]) f5
    have g1 := (g1.same x5).upd (ys := [v0, v1, v2, v3, v4] ++ [v5]) f5
    have g2 := (g2.same x5).upd (ys := [v0, v1, v2, v3, v4] ++ [v5]) f5
    have g3 := (g3.same x5).upd (ys := [v0, v1, v2, v3, v4] ++ [v5]) f5
    have g4 := (g4.same x5).upd (ys := [v0, v1, v2, v3, v4] ++ [v5]) f5
    have g5 := g5.upd (ys := [v0, v1, v2, v3, v4] ++ [v5]) f5
    have eL5 : upd X5 L (.lst ([v0, v1, v2, v3, v4] ++ [v5])) L = some (.lst [v0, v1, v2, v3, v4, v5]) := upd_same
    generalize upd X5 L (.lst ([v0, v1, v2, v3, v4] ++ [v5])) = H5 at *
    have gall : ∀ v ∈ [v0, v1, v2, v3, v4, v5], GoodC (fun _ => True) H5 v := fun v hv => by
      simp only [List.mem_cons, List.not_mem_nil, or_false] at hv
      rcases hv with rfl | rfl | rfl | rfl | rfl | rfl
      · exact g0.imp fun _ _ => trivial
      · exact g1.imp fun _ _ => trivial
      · exact g2.imp fun _ _ => trivial
      · exact g3.imp fun _ _ => trivial
      · exact g4.imp fun _ _ => trivial
      · exact g5.imp fun _ _ => trivial
    refine yda_par (yda2 (yt3 (d := Ty.d (Ty.n .un b a)) (e := Ty.d c) tx_over (yt3 (d := Ty.d b) (e := Ty.d a) tx_under (yb (by rfl) t5) (ya (by rfl) t5)) (yc (by rfl) t5)) (yt3 (d := Ty.d b) (e := Ty.d (Ty.n .ov a c)) tx_under (yb (by rfl) t5) (yt3 (d := Ty.d a) (e := Ty.d c) tx_over (ya (by rfl) t5) (yc (by rfl) t5)))) (Same.refl H5) fun vl vr Ha xa dvl dvr => ?_
    have ta := TK.trans t5 (TK.of_same xa)
    have sHa := sH5.trans xa
    refine yc_catSet (L := L) (vs := [v0, v1, v2, v3, v4, v5]) (yc_mk (.s0 wa wb wc) (yda1 (yd_var (i := 4) (d := Ty.d (Ty.n .ov (Ty.n .un b a) c)) (by rfl) dvl)) (yda1 (yd_var (i := 4) (d := Ty.d (Ty.n .ov (Ty.n .un b a) c)) (by rfl) dvl)) (yd_var (i := 5) (d := Ty.d (Ty.n .un b (Ty.n .ov a c))) (by rfl) dvr) (by simp) (by simp) (by simp [Ty.signs] <;> omega) (by simp [Ty.signs] <;> omega)) (yc_mk (.s1 wa wb wc) (yda1 (yd_var (i := 5) (d := Ty.d (Ty.n .un b (Ty.n .ov a c))) (by rfl) dvr)) (yda1 (yd_var (i := 5) (d := Ty.d (Ty.n .un b (Ty.n .ov a c))) (by rfl) dvr)) (yd_var (i := 4) (d := Ty.d (Ty.n .ov (Ty.n .un b a) c)) (by rfl) dvl) (by simp) (by simp) (by simp [Ty.signs] <;> omega) (by simp [Ty.signs] <;> omega)) (Same.refl Ha) (by rfl) (xa _ _ eL5) (by simp) (fun v hv => (gall v hv).same xa) fun M v6 v7 Hb xb eb gb => ?_
    have tb := ta.trans (TK.of_same xb)
    have sHb := sHa.trans xb
    refine yda_par (yda2 (yt3 (d := Ty.d a) (e := Ty.d (Ty.n .th b c)) tx_over (ya (by rfl) tb) (yt3 (d := Ty.d b) (e := Ty.d c) tx_then (yb (by rfl) tb) (yc (by rfl) tb))) (yt3 (d := Ty.d (Ty.n .ov a c)) (e := Ty.d b) tx_over (yt3 (d := Ty.d a) (e := Ty.d c) tx_over (ya (by rfl) tb) (yc (by rfl) tb)) (yb (by rfl) tb))) (Same.refl Hb) fun vo vp Hc xc dvo dvp => ?_
    have tc := tb.trans (TK.of_same xc)
    have sHc := sHb.trans xc
    refine yc_catSet (L := M) (vs := [v0, v1, v2, v3, v4, v5, v6, v7]) (yc_mk (.p0 wa wb wc) (yda1 (yd_var (i := 6) (d := Ty.d (Ty.n .ov a (Ty.n .th b c))) (by rfl) dvo)) (yda1 (yd_var (i := 6) (d := Ty.d (Ty.n .ov a (Ty.n .th b c))) (by rfl) dvo)) (yd_var (i := 7) (d := Ty.d (Ty.n .ov (Ty.n .ov a c) b)) (by rfl) dvp) (by simp) (by simp) (by simp [Ty.signs] <;> omega) (by simp [Ty.signs] <;> omega)) (yc_mk (.k0 wa wb wc) (yda1 (yd_var (i := 7) (d := Ty.d (Ty.n .ov (Ty.n .ov a c) b)) (by rfl) dvp)) (yda1 (yd_var (i := 7) (d := Ty.d (Ty.n .ov (Ty.n .ov a c) b)) (by rfl) dvp)) (yd_var (i := 6) (d := Ty.d (Ty.n .ov a (Ty.n .th b c))) (by rfl) dvo) (by simp) (by simp) (by simp [Ty.signs] <;> omega) (by simp [Ty.signs] <;> omega)) (Same.refl Hc) (by rfl) (xc _ _ eb) (by simp) (fun v hv => (gb v hv).same xc) fun N v8 v9 Hd xd ed gd => ?_
    have td := tc.trans (TK.of_same xd)
    have sHd := sHc.trans xd
    refine yda_par (yda2 (yt3 (d := Ty.d (Ty.n .th b c)) (e := Ty.d a) tx_under (yt3 (d := Ty.d b) (e := Ty.d c) tx_then (yb (by rfl) td) (yc (by rfl) td)) (ya (by rfl) td)) (yt3 (d := Ty.d c) (e := Ty.d (Ty.n .un b a)) tx_under (yc (by rfl) td) (yt3 (d := Ty.d b) (e := Ty.d a) tx_under (yb (by rfl) td) (ya (by rfl) td)))) (Same.refl Hd) fun vq vs He xe dvq dvs => ?_
    have te := td.trans (TK.of_same xe)
    have sHe := sHd.trans xe
    exact yc_catRet (L := N) (vs := [v0, v1, v2, v3, v4, v5, v6, v7, v8, v9]) (yc_mk (.p1 wa wb wc) (yda1 (yd_var (i := 6) (d := Ty.d (Ty.n .un (Ty.n .th b c) a)) (by rfl) dvq)) (yda1 (yd_var (i := 6) (d := Ty.d (Ty.n .un (Ty.n .th b c) a)) (by rfl) dvq)) (yd_var (i := 7) (d := Ty.d (Ty.n .un c (Ty.n .un b a))) (by rfl) dvs) (by simp) (by simp) (by simp [Ty.signs] <;> omega) (by simp [Ty.signs] <;> omega)) (yc_mk (.k1 wa wb wc) (yda1 (yd_var (i := 7) (d := Ty.d (Ty.n .un c (Ty.n .un b a))) (by rfl) dvs)) (yda1 (yd_var (i := 7) (d := Ty.d (Ty.n .un c (Ty.n .un b a))) (by rfl) dvs)) (yd_var (i := 6) (d := Ty.d (Ty.n .un (Ty.n .th b c) a)) (by rfl) dvq) (by simp) (by simp) (by simp [Ty.signs] <;> omega) (by simp [Ty.signs] <;> omega)) (Same.refl He) (by rfl) (xe _ _ ed) (by simp) (fun v hv => (gd v hv).same xe) fun O v10 v11 Hf xf ef gf => q O _ Hf (sHe.trans xf) ef (by simp) gf
end
end Q4

namespace Q4
open PySem PySem.Spec PyProof.Rows L2 KT LamX
open PySem.W (Frag)
/-! ### any data: texts, numbers, truth values, None, lists, tuples, dictionaries with text keys -/
inductive O
  | s (z : Str)
  | i (n : Int)
  | b (x : Bool)
  | o
  | l (xs : List O)
  | t (xs : List O)
  | d (ks : List (Key × O))
def kok : Key → Prop
  | .inl _ => True
  | .inr z => z.length ≤ 1000000
def kO : Key → O
  | .inl i => .i i
  | .inr z => .s z
/-- the heap without the object at p -/
def rm (H : Hp) (p : Addr) : Hp := fun b => if b = p then none else H b
theorem rm_ext {H H' : Hp} {p : Addr} (h : ExtN H H') : ExtN (rm H p) (rm H' p) := fun b o e m => by
  unfold rm at e ⊢
  split at e
  · cases e
  · rw [if_neg (by assumption)]
    exact h b o e m
theorem rm_sub {H : Hp} {p : Addr} : Same (rm H p) H := fun b o e => by
  unfold rm at e
  split at e
  · cases e
  · exact e
theorem rm_upd {H : Hp} {p : Addr} {o : HO} : Same (rm H p) (upd H p o) := fun b u e => by
  unfold rm at e
  split at e
  · cases e
  · rw [upd_ne (by assumption)]
    exact e
theorem rm_of {H : Hp} {p : Addr} (h : H p = none) : Same H (rm H p) := fun b o e => by
  unfold rm
  rw [if_neg (ne_of_none e h)]
  exact e
theorem rm_new {H : Hp} {p : Addr} {u : HO} (h : H p = none) : Same H (rm (upd H p u) p) := fun b o e => by
  unfold rm
  rw [if_neg (ne_of_none e h), upd_ne (ne_of_none e h)]
  exact e
theorem same_ext {H H' : Hp} (s : Same H H') : ExtN H H' := fun b o e _ => s b o e
/-- a dictionary of a list of pairs; also while it is walked -/
def R0 (H : Hp) (p : Addr) (kvs : List (Key × V)) : Prop := H p = some (.dK kvs)
def R1 (H : Hp) (p : Addr) (kvs : List (Key × V)) : Prop := Rd H p (.dK kvs)
abbrev RK := Hp → Addr → List (Key × V) → Prop
mutual
inductive OG (R : RK) : Hp → V → O → Prop
  | s {H : Hp} {z : Str} : z.length ≤ 1000000 → OG R H (.str z) (.s z)
  | i {H : Hp} (n : Int) : OG R H (.int n) (.i n)
  | b {H : Hp} (x : Bool) : OG R H (.bl x) (.b x)
  | o {H : Hp} : OG R H .non .o
  | l {H : Hp} {p : Addr} {xs : List V} {ds : List O} : H p = some (.lst xs) → OsG R (rm H p) xs ds → OG R H (.ref p) (.l ds)
  | t {H : Hp} {p : Addr} {xs : List V} {ds : List O} : H p = some (.tup xs) → OsG R H xs ds → OG R H (.ref p) (.t ds)
  | d {H : Hp} {p : Addr} {kvs : List (Key × V)} {ds : List (Key × O)} : R H p kvs → OkG R (rm H p) kvs ds → OG R H (.ref p) (.d ds)
inductive OsG (R : RK) : Hp → List V → List O → Prop
  | nil {H : Hp} : OsG R H [] []
  | cons {H : Hp} {v : V} {vs : List V} {d : O} {ds : List O} : OG R H v d → OsG R H vs ds → OsG R H (v :: vs) (d :: ds)
inductive OkG (R : RK) : Hp → List (Key × V) → List (Key × O) → Prop
  | nil {H : Hp} : OkG R H [] []
  | cons {H : Hp} {v : V} {k : Key} {vs : List (Key × V)} {d : O} {ds : List (Key × O)} : kok k → OG R H v d → OkG R H vs ds → OkG R H ((k, v) :: vs) ((k, d) :: ds)
end
/-- what such data stay under -/
structure Mv (R R' : RK) (E : Hp → Hp → Prop) : Prop where
  rm : ∀ {H H' : Hp} {p : Addr}, E H H' → E (rm H p) (rm H' p)
  l : ∀ {H H' : Hp} {p : Addr} {xs : List V}, E H H' → H p = some (.lst xs) → H' p = some (.lst xs)
  t : ∀ {H H' : Hp} {p : Addr} {xs : List V}, E H H' → H p = some (.tup xs) → H' p = some (.tup xs)
  d : ∀ {H H' : Hp} {p : Addr} {kvs : List (Key × V)}, E H H' → R H p kvs → R' H' p kvs
mutual
theorem OG.mv {R R' : RK} {E : Hp → Hp → Prop} (m : Mv R R' E) : ∀ {d : O} {H H' : Hp} {v : V}, E H H' → OG R H v d → OG R' H' v d
  | .s _, _, _, _, _, .s h => .s h
  | .i _, _, _, _, _, .i n => .i n
  | .b _, _, _, _, _, .b n => .b n
  | .o, _, _, _, _, .o => .o
  | .l _, _, _, _, k, .l e h => .l (m.l k e) (OsG.mv m (m.rm k) h)
  | .t _, _, _, _, k, .t e h => .t (m.t k e) (OsG.mv m k h)
  | .d _, _, _, _, k, .d e h => .d (m.d k e) (OkG.mv m (m.rm k) h)
theorem OsG.mv {R R' : RK} {E : Hp → Hp → Prop} (m : Mv R R' E) : ∀ {ds : List O} {H H' : Hp} {vs : List V}, E H H' → OsG R H vs ds → OsG R' H' vs ds
  | [], _, _, _, _, .nil => .nil
  | _ :: _, _, _, _, k, .cons h r => .cons (OG.mv m k h) (OsG.mv m k r)
theorem OkG.mv {R R' : RK} {E : Hp → Hp → Prop} (m : Mv R R' E) : ∀ {ds : List (Key × O)} {H H' : Hp} {vs : List (Key × V)}, E H H' → OkG R H vs ds → OkG R' H' vs ds
  | [], _, _, _, _, .nil => .nil
  | (_, _) :: _, _, _, _, k, .cons l h r => .cons l (OG.mv m k h) (OkG.mv m k r)
end
abbrev OAt := OG R0
abbrev OsAt := OsG R0
abbrev OkAt := OkG R0
theorem mv_ext : Mv R0 R0 ExtN := ⟨rm_ext, fun k e => k _ _ e fun _ z => (by cases z), fun k e => k _ _ e fun _ z => (by cases z), fun k e => k _ _ e fun _ z => (by cases z)⟩
/-- lists and tuples stay, dictionaries may be walked -/
structure ExtR (H H' : Hp) : Prop where
  l : ∀ {p : Addr} {xs : List V}, H p = some (.lst xs) → H' p = some (.lst xs)
  t : ∀ {p : Addr} {xs : List V}, H p = some (.tup xs) → H' p = some (.tup xs)
  d : ∀ {p : Addr} {kvs : List (Key × V)}, R1 H p kvs → R1 H' p kvs
theorem rm_eq {H : Hp} {p b : Addr} {o : HO} (e : rm H p b = some o) : b ≠ p ∧ H b = some o := by
  unfold rm at e
  split at e
  · cases e
  · exact ⟨by assumption, e⟩
theorem rm_at {H : Hp} {p b : Addr} {o : HO} (n : b ≠ p) (e : H b = some o) : rm H p b = some o := by
  unfold rm
  rw [if_neg n]
  exact e
theorem rm_R1 {H : Hp} {p b : Addr} {kvs : List (Key × V)} (e : R1 (rm H p) b kvs) : b ≠ p ∧ R1 H b kvs := by
  rcases e with e | ⟨o, e⟩
  · exact ⟨(rm_eq e).1, .inl (rm_eq e).2⟩
  · exact ⟨(rm_eq e).1, .inr ⟨o, (rm_eq e).2⟩⟩
theorem R1_rm {H : Hp} {p b : Addr} {kvs : List (Key × V)} (n : b ≠ p) (e : R1 H b kvs) : R1 (rm H p) b kvs := by
  rcases e with e | ⟨o, e⟩
  · exact .inl (rm_at n e)
  · exact .inr ⟨o, rm_at n e⟩
theorem extR_rm {H H' : Hp} {p : Addr} (k : ExtR H H') : ExtR (rm H p) (rm H' p) :=
  ⟨fun e => rm_at (rm_eq e).1 (k.l (rm_eq e).2), fun e => rm_at (rm_eq e).1 (k.t (rm_eq e).2), fun e => R1_rm (rm_R1 e).1 (k.d (rm_R1 e).2)⟩
theorem mv_R : Mv R1 R1 ExtR := ⟨extR_rm, fun k e => k.l e, fun k e => k.t e, fun k e => k.d e⟩
theorem mv_01 : Mv R0 R1 Same := ⟨fun k b o e => rm_at (rm_eq e).1 (k _ _ (rm_eq e).2), fun k e => k _ _ e, fun k e => k _ _ e, fun k e => .inl (k _ _ e)⟩
theorem extR_same {H H' : Hp} (k : Same H H') : ExtR H H' := ⟨fun e => k _ _ e, fun e => k _ _ e, fun e => e.elim (fun e => .inl (k _ _ e)) fun ⟨o, e⟩ => .inr ⟨o, k _ _ e⟩⟩
theorem extR_lock {H : Hp} {a : Addr} {kvs : List (Key × V)} {od : Obj} (e : H a = some (.dK kvs)) : ExtR H (upd H a (.frz od (.dK kvs))) := by
  refine ⟨fun {p xs} q => ?_, fun {p xs} q => ?_, fun {p us} q => ?_⟩
  · rw [upd_ne (fun z => by rw [z, e] at q; cases q)]
    exact q
  · rw [upd_ne (fun z => by rw [z, e] at q; cases q)]
    exact q
  · by_cases z : p = a
    · subst z
      rcases q with q | ⟨o, q⟩
      · rw [e] at q
        cases q
        exact .inr ⟨od, upd_same⟩
      · rw [e] at q
        cases q
    · rcases q with q | ⟨o, q⟩
      · exact .inl (by rw [upd_ne z]; exact q)
      · exact .inr ⟨o, by rw [upd_ne z]; exact q⟩
theorem OG.extR {d : O} {H H' : Hp} {v : V} (k : ExtR H H') (h : OG R1 H v d) : OG R1 H' v d := h.mv mv_R k
theorem OG.r1 {d : O} {H : Hp} {v : V} (h : OAt H v d) : OG R1 H v d := h.mv mv_01 (Same.refl H)
theorem OG.ext {d : O} {H H' : Hp} {v : V} (k : ExtN H H') (h : OAt H v d) : OAt H' v d := h.mv mv_ext k
theorem OsG.ext {d : List O} {H H' : Hp} {v : List V} (k : ExtN H H') (h : OsAt H v d) : OsAt H' v d := h.mv mv_ext k
theorem OkG.ext {d : List (Key × O)} {H H' : Hp} {v : List (Key × V)} (k : ExtN H H') (h : OkAt H v d) : OkAt H' v d := h.mv mv_ext k
theorem OG.same {d : O} {H H' : Hp} {v : V} (s : Same H H') (h : OAt H v d) : OAt H' v d := h.ext (same_ext s)
theorem OsG.same {d : List O} {H H' : Hp} {v : List V} (s : Same H H') (h : OsAt H v d) : OsAt H' v d := h.ext (same_ext s)
theorem OkG.same {d : List (Key × O)} {H H' : Hp} {v : List (Key × V)} (s : Same H H') (h : OkAt H v d) : OkAt H' v d := h.ext (same_ext s)
theorem OsG.length {R : RK} {H : Hp} : ∀ {ds : List O} {vs : List V}, OsG R H vs ds → vs.length = ds.length
  | _, _, .nil => rfl
  | _, _, .cons _ r => by rw [List.length_cons, List.length_cons, r.length]
theorem OkG.length {R : RK} {H : Hp} : ∀ {ds : List (Key × O)} {vs : List (Key × V)}, OkG R H vs ds → vs.length = ds.length
  | _, _, .nil => rfl
  | _, _, .cons _ _ r => by rw [List.length_cons, List.length_cons, r.length]
theorem OsG.append {R : RK} {H : Hp} : ∀ {ds es : List O} {vs us : List V}, OsG R H vs ds → OsG R H us es → OsG R H (vs ++ us) (ds ++ es)
  | _, _, _, _, .nil, h => h
  | _, _, _, _, .cons a r, h => .cons a (r.append h)
theorem OsG.at_ {R : RK} {H : Hp} : ∀ {ds : List O} {vs : List V}, OsG R H vs ds → ∀ {i : Nat} {v : V}, vs[i]? = some v → ∃ d, ds[i]? = some d ∧ OG R H v d
  | _, _, .nil, i, v, e => by simp at e
  | _, _, .cons h r, 0, v, e => by
    obtain rfl := Option.some.inj (show some _ = some v from e)
    exact ⟨_, rfl, h⟩
  | _, _, .cons h r, i + 1, v, e => r.at_ (i := i) (by simpa using e)
theorem OkG.at_ {R : RK} {H : Hp} : ∀ {ds : List (Key × O)} {vs : List (Key × V)}, OkG R H vs ds → ∀ {i : Nat} {k : Key} {v : V}, vs[i]? = some (k, v) → ∃ z d, ds[i]? = some (z, d) ∧ k = z ∧ OG R H v d
  | _, _, .nil, i, k, v, e => by simp at e
  | _, _, .cons _ h r, 0, k, v, e => by
    obtain ⟨rfl, rfl⟩ := Prod.mk.inj (Option.some.inj e)
    exact ⟨_, _, rfl, rfl, h⟩
  | _, _, .cons _ h r, i + 1, k, v, e => r.at_ (i := i) (by simpa using e)
theorem OkG.key {R : RK} {H : Hp} : ∀ {ds : List (Key × O)} {vs : List (Key × V)}, OkG R H vs ds → (ds.map (·.1)).Nodup → ∀ {i : Nat} {z : Key} {d : O}, ds[i]? = some (z, d) → ∃ v, valV vs z = some v ∧ OG R H v d
  | _, _, .nil, _, i, z, d, e => by simp at e
  | (k0, _) :: _, _, .cons _ h r, nd, 0, z, d, e => by
    obtain ⟨rfl, rfl⟩ := Prod.mk.inj (Option.some.inj e)
    exact ⟨_, valV_pos rfl, h⟩
  | (k0, _) :: ds, _, .cons _ h r, nd, i + 1, z, d, e => by
    obtain ⟨n1, n2⟩ := List.nodup_cons.mp (show ((k0 :: ds.map (·.1))).Nodup from nd)
    have e' : ds[i]? = some (z, d) := by simpa using e
    obtain ⟨v, e1, h1⟩ := r.key n2 (i := i) e'
    refine ⟨v, ?_, h1⟩
    rw [valV_neg]
    · exact e1
    · intro q
      have q' : k0 = z := q
      exact n1 (by rw [q']; exact List.mem_map.mpr ⟨(z, d), List.mem_of_getElem? e', rfl⟩)
theorem OkG.keys {R : RK} {H : Hp} {ds : List (Key × O)} {vs : List (Key × V)} (h : OkG R H vs ds) : vs.map (fun kv => kV kv.1) = ds.map fun kd => kV kd.1 := by
  induction ds generalizing vs with
  | nil => cases h; rfl
  | cons x r ih =>
    cases h with
    | cons _ a b => rw [List.map_cons, List.map_cons, ih b]
theorem kO_at {R : RK} {H : Hp} {k : Key} (h : kok k) : OG R H (kV k) (kO k) := by
  cases k with
  | inl i => exact .i i
  | inr z => exact .s h
theorem OkG.klen {R : RK} {H : Hp} {ds : List (Key × O)} {vs : List (Key × V)} (h : OkG R H vs ds) : ∀ kd ∈ ds, kok kd.1 := by
  induction ds generalizing vs with
  | nil => intro kd m; cases m
  | cons x r ih =>
    cases h with
    | cons l a b =>
      intro kd m
      rcases List.mem_cons.mp m with e | m
      · rw [e]; exact l
      · exact ih b kd m
mutual
def O.dep : O → Nat
  | .l xs => odepAll xs + 1
  | .t xs => odepAll xs + 1
  | .d ks => odepKs ks + 2
  | _ => 0
def odepAll : List O → Nat
  | [] => 0
  | d :: r => max d.dep (odepAll r)
def odepKs : List (Key × O) → Nat
  | [] => 0
  | (_, d) :: r => max d.dep (odepKs r)
end
mutual
/-- small enough, no key twice -/
def O.wf : O → Bool
  | .l xs => decide (xs.length ≤ 1000) && owfAll xs
  | .t xs => decide (xs.length ≤ 1000) && owfAll xs
  | .d ks => decide (ks.length ≤ 1000) && decide (ks.map (·.1)).Nodup && owfKs ks
  | _ => true
def owfAll : List O → Bool
  | [] => true
  | d :: r => d.wf && owfAll r
def owfKs : List (Key × O) → Bool
  | [] => true
  | (_, d) :: r => d.wf && owfKs r
end
theorem kO_dep (k : Key) : (kO k).dep = 0 := by cases k <;> rfl
theorem kO_wf (k : Key) : (kO k).wf = true := by cases k <;> rfl
theorem odepAll_at : ∀ {ds : List O} {i : Nat} {d : O}, ds[i]? = some d → d.dep ≤ odepAll ds
  | [], i, d, e => by simp at e
  | x :: r, 0, d, e => by
    obtain rfl := Option.some.inj (show some x = some d from e)
    exact Nat.le_max_left _ _
  | x :: r, i + 1, d, e => Nat.le_trans (odepAll_at (ds := r) (i := i) (by simpa using e)) (Nat.le_max_right _ _)
theorem odepKs_at : ∀ {ds : List (Key × O)} {i : Nat} {z : Key} {d : O}, ds[i]? = some (z, d) → d.dep ≤ odepKs ds
  | [], i, z, d, e => by simp at e
  | (k, x) :: r, 0, z, d, e => by
    obtain ⟨_, rfl⟩ := Prod.mk.inj (Option.some.inj e)
    exact Nat.le_max_left _ _
  | (k, x) :: r, i + 1, z, d, e => Nat.le_trans (odepKs_at (ds := r) (i := i) (z := z) (by simpa using e)) (Nat.le_max_right _ _)
theorem owfAll_at : ∀ {ds : List O} {i : Nat} {d : O}, owfAll ds = true → ds[i]? = some d → d.wf = true
  | [], i, d, _, e => by simp at e
  | x :: r, 0, d, h, e => by
    obtain rfl := Option.some.inj (show some x = some d from e)
    unfold owfAll at h
    exact (Bool.and_eq_true_iff.mp h).1
  | x :: r, i + 1, d, h, e => owfAll_at (ds := r) (i := i) (by unfold owfAll at h; exact (Bool.and_eq_true_iff.mp h).2) (by simpa using e)
theorem owfKs_at : ∀ {ds : List (Key × O)} {i : Nat} {z : Key} {d : O}, owfKs ds = true → ds[i]? = some (z, d) → d.wf = true
  | [], i, z, d, _, e => by simp at e
  | (k, x) :: r, 0, z, d, h, e => by
    obtain ⟨_, rfl⟩ := Prod.mk.inj (Option.some.inj e)
    unfold owfKs at h
    exact (Bool.and_eq_true_iff.mp h).1
  | (k, x) :: r, i + 1, z, d, h, e => owfKs_at (ds := r) (i := i) (z := z) (by unfold owfKs at h; exact (Bool.and_eq_true_iff.mp h).2) (by simpa using e)
theorem owfAll_app : ∀ {l r : List O}, owfAll (l ++ r) = (owfAll l && owfAll r)
  | [], r => by simp [owfAll]
  | d :: l, r => by simp only [List.cons_append, owfAll, owfAll_app (l := l), Bool.and_assoc]
def O.box : O → Bool
  | .l _ => true
  | .t _ => true
  | .d _ => true
  | _ => false
theorem O.scl {H : Hp} {v v' : V} {x : O} (h : OAt H v x) (h' : OG R1 H v' x) : (v' = v ∧ Scl v) ∨ x.box = true := by
  cases h with
  | s _ => cases h'; exact .inl ⟨rfl, .s _⟩
  | i _ => cases h'; exact .inl ⟨rfl, .i _⟩
  | b _ => cases h'; exact .inl ⟨rfl, .b _⟩
  | o => cases h'; exact .inl ⟨rfl, .o⟩
  | l _ _ => exact .inr rfl
  | t _ _ => exact .inr rfl
  | d _ _ => exact .inr rfl
/-! ### types as such data -/
def Ty.ob : Ty → O
  | .w z => .s z
  | .n g a b => .t [.s g.str, a.ob, b.ob]
theorem TyAt.ob {H : Hp} {v : V} {t : Ty} (h : TyAt H v t) : OAt H v t.ob := by
  induction h with
  | w h => exact .s (by have := h.2.1; omega)
  | @n p g x y a b e _ _ i j => exact .t e (.cons (.s (by cases g <;> decide +kernel)) (.cons i (.cons j .nil)))
theorem Ty.ob_dep (t : Ty) : t.ob.dep ≤ t.signs := by
  induction t with
  | w z => simp [Ty.ob, O.dep]
  | n g a b i j => simp only [Ty.ob, O.dep, odepAll, Ty.signs]; omega
end Q4

namespace Q4
open PySem PySem.Spec PyProof.Rows L2 KT LamX
open PySem.W (Frag)
section
variable {P : Program} {w : World} {K : Frag} {mg : Str → Option Value} {base : Heap}
/-! ### _law_exact of any data: two values that bear the same are told to be -/
def spExactO (n : Nat) : Sp := fun vs H Q _ => ∃ v v' x, vs = [v, v'] ∧ OAt H v x ∧ OG R1 H v' x ∧ x.wf = true ∧ x.dep ≤ n ∧ ∀ H', Same H H' → Q (.bl true) H'
theorem fn_vacO {f : Addr} {fd : FuncData} {ps : List Str} : FnOk P w K mg base CX0 0 f fd ps (fun _ _ _ _ => False) := ⟨fun _ _ _ _ h => h.elim, fun _ _ _ _ _ _ _ _ _ _ _ _ _ h => h.elim⟩
theorem nodepL {H : Hp} {xs : List O} {n : Nat} (h : (O.l xs).dep ≤ n) {i : Nat} {d : O} (e : xs[i]? = some d) : d.dep + 1 ≤ n := by
  simp only [O.dep] at h
  have := odepAll_at e
  omega
theorem exactO_step {f : Addr} {fd : FuncData} (T : Top K mg "_law_exact" sLExact pLExact f fd) (B : Blt mg) {n m : Nat} {sp' : Sp} (GP : FnOk P w K mg base CX0 m f fd pLExact sp')
    (hsp : ∀ v v' x H Q, OAt H v x → OG R1 H v' x → x.wf = true → x.dep + 1 ≤ n → (∀ H', Same H H' → Q (.bl true) H') → sp' [v, v'] H Q L2.E0) : FnOk P w K mg base CX0 (m + 1) f fd pLExact (spExactO n) := by
  refine T.F.ok scLExact (fun vs H Q E h => ?_) (fun cdv A outer s H vs Q E hr h => ?_)
  · obtain ⟨_, _, _, rfl, _⟩ := h
    rfl
  · have hu := hu_of hr
    obtain ⟨v, v', x, rfl, h1, h2, hw, hn, k⟩ := h
    refine ⟨_, (pss_cons (ps_if (pt_val (pe_callB call_isiT (by rfl) B.isi (by decide +kernel) (pa_cons (pv 0) (pa_cons (pe_tup (pa_cons (pe_bltn (v := .ty "list") (by rfl) B.list (by decide +kernel) rfl) (pa_cons (pe_bltn (v := .ty "tuple") (by rfl) B.tuple (by decide +kernel) rfl) pa_nil))) pa_nil)))) (pss_cons (ps_set (i := 2) scLExact.nd rfl (Or.inl rfl) (pe_and (pe_cmpR op_eq (pe_callB call_isi (by rfl) B.isi (by decide +kernel) (pa_cons (pv 1) (pa_cons (pe_bltn (v := .ty "list") (by rfl) B.list (by decide +kernel) rfl) pa_nil))) (pe_callB call_isi (by rfl) B.isi (by decide +kernel) (pa_cons (pv 0) (pa_cons (pe_bltn (v := .ty "list") (by rfl) B.list (by decide +kernel) rfl) pa_nil))) (nomark _)) (pe_one (pe_cmpR op_eq (pe_callB call_isi (by rfl) B.isi (by decide +kernel) (pa_cons (pv 1) (pa_cons (pe_bltn (v := .ty "tuple") (by rfl) B.tuple (by decide +kernel) rfl) pa_nil))) (pe_callB call_isi (by rfl) B.isi (by decide +kernel) (pa_cons (pv 0) (pa_cons (pe_bltn (v := .ty "tuple") (by rfl) B.tuple (by decide +kernel) rfl) pa_nil))) (nomark _)))))
      (pss_one (ps_ret (pe_and (pv 2) (pe_and (pe_cmpR op_eq (pe_callB call_len_seq (by rfl) B.len PySem.boot_len (pa_cons (pv 0) pa_nil)) (pe_callB call_len_seq (by rfl) B.len PySem.boot_len (pa_cons (pv 1) pa_nil)) (nomark _)) (pe_one (pe_callB (cr_all rfl) (by rfl) B.all (by decide +kernel) (pa_cons (pe_lc (own := [("a", 3), ("b", 4)]) (g := gTup K 2 (gCons (gName 3) (gCons (gName 4) gNil))) (tt := tYes) rfl scLExact.nd (RZ.pi_zipA (by rfl) B.zip (pa_cons (pv 0) (pa_cons (pv 1) pa_nil))) (blkOk_by (N := nLExact) (sc := defScope sLExact) (by decide +kernel)) (fun _ _ _ _ _ => pg_tup (by rfl) (pgs_cons (pg_name (i := 3) scLExact.nd rfl (Or.inl rfl)) (pgs_cons (pg_name (i := 4) scLExact.nd rfl (Or.inl rfl)) pgs_nil))) (fun _ _ _ _ _ => pts_nil)
            (fun _ _ _ _ _ => (pe_call GP hr rfl T.g T.F.kp T.b .nil pass0 (pa_cons (pv 3) (pa_cons (pv 4) pa_nil))))) pa_nil)))))))) pss_nil)
      (pss_cons (ps_if (pt_val (pe_callB call_isi (by rfl) B.isi (by decide +kernel) (pa_cons (pv 0) (pa_cons (pe_bltn (v := .ty "dict") (by rfl) B.dict (by decide +kernel) rfl) pa_nil)))) (pss_cons (ps_set (i := 2) scLExact.nd rfl (Or.inl rfl) (pe_and (pe_callB call_isi (by rfl) B.isi (by decide +kernel) (pa_cons (pv 1) (pa_cons (pe_bltn (v := .ty "dict") (by rfl) B.dict (by decide +kernel) rfl) pa_nil))) (pe_one (pe_call GP hr rfl T.g T.F.kp T.b .nil pass0 (pa_cons (pe_callTy (call_listD rfl) (by rfl) B.list (by decide +kernel) (pa_cons (pv 0) pa_nil)) (pa_cons (pe_callTy (call_listD rfl) (by rfl) B.list (by decide +kernel) (pa_cons (pv 1) pa_nil)) pa_nil))))))
      (pss_one (ps_ret (pe_and (pv 2) (pe_one (pe_callB (cr_all rfl) (by rfl) B.all (by decide +kernel) (pa_cons (pe_lock (pe_lc (own := [("key", 5)]) (g := gName 5) (tt := tYes) rfl scLExact.nd (pi_keys (pv 0)) (blkOk_by (N := nLExact) (sc := defScope sLExact) (by decide +kernel)) (fun _ _ _ _ _ => pg_name (i := 5) scLExact.nd rfl (Or.inl rfl)) (fun _ _ _ _ _ => pts_nil)
            (fun _ _ _ _ _ => (pe_call GP hr rfl T.g T.F.kp T.b .nil pass0 (pa_cons (pe_dget hu (pv 0) (pv 5) (fun _ _ => rfl)) (pa_cons (pe_dget hu (pv 1) (pv 5) (fun _ _ => rfl)) pa_nil)))))) pa_nil))))))) pss_nil)
      (pss_cons (ps_set (i := 2) scLExact.nd rfl (Or.inl rfl) (pe_cmpR op_eq (pe_callB call_isi (by rfl) B.isi (by decide +kernel) (pa_cons (pv 0) (pa_cons (pe_bltn (v := .ty "int") (by rfl) B.int (by decide +kernel) rfl) pa_nil))) (pe_callB call_isi (by rfl) B.isi (by decide +kernel) (pa_cons (pv 1) (pa_cons (pe_bltn (v := .ty "int") (by rfl) B.int (by decide +kernel) rfl) pa_nil))) (nomark _)))
      (pss_one (ps_ret (pe_and (pv 2) (pe_and (pe_cmpR op_eq (pe_callB call_isi (by rfl) B.isi (by decide +kernel) (pa_cons (pv 0) (pa_cons (pe_bltn (v := .ty "bool") (by rfl) B.bool_ (by decide +kernel) rfl) pa_nil))) (pe_callB call_isi (by rfl) B.isi (by decide +kernel) (pa_cons (pv 1) (pa_cons (pe_bltn (v := .ty "bool") (by rfl) B.bool_ (by decide +kernel) rfl) pa_nil))) (nomark _)) (pe_one (pe_cmpR op_eq (pv 0) (pv 1) (nomark _)))))))))), ?_⟩
    rcases O.scl h1 h2 with ⟨rfl, hs⟩ | hbx
    · obtain ⟨c, bi, bb, ty, k1, k2, k3, k4, sc⟩ := scl_ty (K := K) hs
      refine ⟨v', rfl, by show 2 ≤ sizeLine; rw [sizeLine_eq]; omega, fun p hp => ⟨v', p, _, _, _, false, rfl, upd_same, .cons (.ty "list") (.cons (.ty "tuple") .nil), ty _, k1, false, rfl, iteF ?_⟩⟩
      refine ⟨_, rfl, _, _, _, _, false, rfl, .ty "dict", ty _, k2, false, rfl, iteF ?_⟩
      refine ⟨_, rfl, _, _, _, _, bi, rfl, .ty "int", ty _, k3, _, rfl, _, _, _, _, bi, rfl, .ty "int", ty _, k3, rfl, ?_⟩
      refine ⟨_, rfl, true, congrArg V.bl (decide_eq_true rfl), ?_⟩
      refine ⟨_, rfl, _, _, _, _, bb, rfl, .ty "bool", ty _, k4, _, rfl, _, _, _, _, bb, rfl, .ty "bool", ty _, k4, rfl, true, congrArg V.bl (decide_eq_true rfl), ?_⟩
      refine ⟨_, rfl, _, rfl, sc, ?_⟩
      have e : decide (v' = v') = true := decide_eq_true rfl
      rw [e]
      exact k _ (same_upd hp)
    cases h1 with
    | s hz => exact absurd hbx Bool.false_ne_true
    | i n => exact absurd hbx Bool.false_ne_true
    | b n => exact absurd hbx Bool.false_ne_true
    | o => exact absurd hbx Bool.false_ne_true
    | @l _ a xs ds ea hx =>
      cases h2 with
      | @l _ a' ys _ eb hy =>
        have lx := hx.length
        have ly := hy.length
        have hw' : decide (ds.length ≤ 1000) = true ∧ owfAll ds = true := by
          rw [O.wf] at hw
          exact Bool.and_eq_true_iff.mp hw
        have l4 := of_decide_eq_true hw'.1
        have tyA : ∀ p, H p = none → ∀ b zs, H b = some (.lst zs) → TyX K (upd H p (.tup [.ty "list", .ty "tuple"])) (.ref b) (.type "list") := fun p hp b zs e => .base (.lst (show upd H p _ b = _ by rw [upd_ne (ne_of_none e hp)]; exact e))
        refine ⟨.ref a, rfl, by show 2 ≤ sizeLine; rw [sizeLine_eq]; omega, fun p hp => ⟨.ref a, p, _, _, _, true, rfl, upd_same, .cons (.ty "list") (.cons (.ty "tuple") .nil), tyA p hp a xs ea, kitAny_cons (b := true) (kit_ty (by decide +kernel)) (fun z => by cases z) (fun _ => rfl), true, rfl, iteT ?_⟩⟩
        have s1 : Same H (upd H p (.tup [.ty "list", .ty "tuple"])) := same_upd hp
        refine ⟨_, rfl, _, _, _, _, true, rfl, .ty "list", tyA p hp a' ys eb, kit_ty (by decide +kernel), _, rfl, _, _, _, _, true, rfl, .ty "list", tyA p hp a xs ea, kit_ty (by decide +kernel), rfl, true, congrArg V.bl (decide_eq_true rfl), ?_⟩
        refine ⟨_, rfl, _, _, _, _, false, rfl, .ty "tuple", tyA p hp a' ys eb, kit_ty (by decide +kernel), _, rfl, _, _, _, _, false, rfl, .ty "tuple", tyA p hp a xs ea, kit_ty (by decide +kernel), rfl, ?_⟩
        refine ⟨_, rfl, true, congrArg V.bl (decide_eq_true rfl), ?_⟩
        refine ⟨_, rfl, a, xs, rfl, .inl (SqL.of (s1 _ _ ea)), _, rfl, a', ys, rfl, .inl (SqL.of (s1 _ _ eb)), rfl, true, congrArg V.bl (decide_eq_true (by rw [lx, ly])), ?_⟩
        refine ⟨_, rfl, _, rfl, a, a', xs, ys, rfl, .inl ⟨SqL.of (s1 _ _ ea), SqL.of (s1 _ _ eb), fun D hD => ?_⟩⟩
        have sD : Same H (upd (upd H p (.tup [.ty "list", .ty "tuple"])) D (.lst [])) := s1.trans (same_upd hD)
        have nHD : H D = none := s1.free hD
        refine lc_it (walk_zip (n := xs.length) (by omega)) (fun i H' => Same H H' ∧ H' D = some (.lst (List.replicate i (.bl true)))) ⟨sD, upd_same⟩ (fun i H' _ q => ⟨SqL.of (q.1 _ _ ea), SqL.of (q.1 _ _ eb)⟩) ?_ ?_
        · rintro i x H' H2 hi ⟨sI, eD⟩ ⟨Tp, x1, x2, rfl, nT, rfl, g1, g2⟩
          have s2 : Same H' (upd H' Tp (.tup [x1, x2])) := same_upd nT
          obtain ⟨d1, e1, o1⟩ := hx.at_ g1
          obtain ⟨d2, e2, o2⟩ := hy.at_ g2
          obtain rfl := Option.some.inj (e1.symm.trans e2)
          refine ⟨Tp, _, rfl, SqT.of upd_same, rfl, _, _, rfl, _, _, rfl, rfl, rfl, ?_⟩
          refine ⟨_, rfl, _, rfl, hsp _ _ _ _ _ ((o1.same rm_sub).same (sI.trans s2)) (o2.extR (extR_same (fun b o e => (sI.trans s2) b o (rm_sub b o e)))) (owfAll_at hw'.2 e1) (by have := odepAll_at e1; simp only [O.dep] at hn; omega) fun H3 s3 => ⟨_, s3 _ _ (s2 _ _ eD), by rw [List.length_replicate, sizeLine_eq]; omega, ?_, ?_⟩⟩
          · exact same_over ((sI.trans s2).trans s3) nHD
          · rw [upd_same, ← List.replicate_succ']
        · rintro H' ⟨sI, eD⟩
          refine ⟨D, List.replicate xs.length true, rfl, SqL.of (by rw [eD, List.map_replicate]), ?_⟩
          have e : (List.replicate xs.length true).all id = true := by
            rw [List.all_eq_true]
            intro b hb
            exact (List.mem_replicate.mp hb).2
          rw [e]
          exact k _ sI
    | @t _ a xs ds ea hx =>
      cases h2 with
      | @t _ a' ys _ eb hy =>
        have lx := hx.length
        have ly := hy.length
        have hw' : decide (ds.length ≤ 1000) = true ∧ owfAll ds = true := by
          rw [O.wf] at hw
          exact Bool.and_eq_true_iff.mp hw
        have l4 := of_decide_eq_true hw'.1
        have tyA : ∀ p, H p = none → ∀ b zs, H b = some (.tup zs) → TyX K (upd H p (.tup [.ty "list", .ty "tuple"])) (.ref b) (.type "tuple") := fun p hp b zs e => .base (.tup (show upd H p _ b = _ by rw [upd_ne (ne_of_none e hp)]; exact e))
        refine ⟨.ref a, rfl, by show 2 ≤ sizeLine; rw [sizeLine_eq]; omega, fun p hp => ⟨.ref a, p, _, _, _, true, rfl, upd_same, .cons (.ty "list") (.cons (.ty "tuple") .nil), tyA p hp a xs ea, kitAny_cons (b := false) (kit_ty (by decide +kernel)) (fun _ => kitAny_cons (b := true) (kit_ty (by decide +kernel)) (fun z => by cases z) (fun _ => rfl)) (fun z => by cases z), true, rfl, iteT ?_⟩⟩
        have s1 : Same H (upd H p (.tup [.ty "list", .ty "tuple"])) := same_upd hp
        refine ⟨_, rfl, _, _, _, _, false, rfl, .ty "list", tyA p hp a' ys eb, kit_ty (by decide +kernel), _, rfl, _, _, _, _, false, rfl, .ty "list", tyA p hp a xs ea, kit_ty (by decide +kernel), rfl, true, congrArg V.bl (decide_eq_true rfl), ?_⟩
        refine ⟨_, rfl, _, _, _, _, true, rfl, .ty "tuple", tyA p hp a' ys eb, kit_ty (by decide +kernel), _, rfl, _, _, _, _, true, rfl, .ty "tuple", tyA p hp a xs ea, kit_ty (by decide +kernel), rfl, ?_⟩
        refine ⟨_, rfl, true, congrArg V.bl (decide_eq_true rfl), ?_⟩
        refine ⟨_, rfl, a, xs, rfl, .inr (SqT.of (s1 _ _ ea)), _, rfl, a', ys, rfl, .inr (SqT.of (s1 _ _ eb)), rfl, true, congrArg V.bl (decide_eq_true (by rw [lx, ly])), ?_⟩
        refine ⟨_, rfl, _, rfl, a, a', xs, ys, rfl, .inr ⟨SqT.of (s1 _ _ ea), SqT.of (s1 _ _ eb), fun D hD => ?_⟩⟩
        have sD : Same H (upd (upd H p (.tup [.ty "list", .ty "tuple"])) D (.lst [])) := s1.trans (same_upd hD)
        have nHD : H D = none := s1.free hD
        refine lc_it (walk_zipT (n := xs.length) (by omega)) (fun i H' => Same H H' ∧ H' D = some (.lst (List.replicate i (.bl true)))) ⟨sD, upd_same⟩ (fun i H' _ q => ⟨SqT.of (q.1 _ _ ea), SqT.of (q.1 _ _ eb)⟩) ?_ ?_
        · rintro i x H' H2 hi ⟨sI, eD⟩ ⟨Tp, x1, x2, rfl, nT, rfl, g1, g2⟩
          have s2 : Same H' (upd H' Tp (.tup [x1, x2])) := same_upd nT
          obtain ⟨d1, e1, o1⟩ := hx.at_ g1
          obtain ⟨d2, e2, o2⟩ := hy.at_ g2
          obtain rfl := Option.some.inj (e1.symm.trans e2)
          refine ⟨Tp, _, rfl, SqT.of upd_same, rfl, _, _, rfl, _, _, rfl, rfl, rfl, ?_⟩
          refine ⟨_, rfl, _, rfl, hsp _ _ _ _ _ (o1.same (sI.trans s2)) (o2.extR (extR_same (sI.trans s2))) (owfAll_at hw'.2 e1) (by have := odepAll_at e1; simp only [O.dep] at hn; omega) fun H3 s3 => ⟨_, s3 _ _ (s2 _ _ eD), by rw [List.length_replicate, sizeLine_eq]; omega, ?_, ?_⟩⟩
          · exact same_over ((sI.trans s2).trans s3) nHD
          · rw [upd_same, ← List.replicate_succ']
        · rintro H' ⟨sI, eD⟩
          refine ⟨D, List.replicate xs.length true, rfl, SqL.of (by rw [eD, List.map_replicate]), ?_⟩
          have e : (List.replicate xs.length true).all id = true := by
            rw [List.all_eq_true]
            intro b hb
            exact (List.mem_replicate.mp hb).2
          rw [e]
          exact k _ sI
    | @d _ a kvs ds ea hx =>
      cases h2 with
      | @d _ a' kvs' _ eb hy =>
        have lx := hx.length
        have ly := hy.length
        have hw' : ds.length ≤ 1000 ∧ (ds.map (·.1)).Nodup ∧ owfKs ds = true := by
          rw [O.wf] at hw
          obtain ⟨w1, w2⟩ := Bool.and_eq_true_iff.mp hw
          obtain ⟨w3, w4⟩ := Bool.and_eq_true_iff.mp w1
          exact ⟨of_decide_eq_true w3, of_decide_eq_true w4, w2⟩
        obtain ⟨l4, nd, wk⟩ := hw'
        have lk := hx.klen
        have ea0 : H a = some (.dK kvs) := ea
        have tyA : ∀ p, H p = none → ∀ b zs, R1 H b zs → TyX K (upd H p (.tup [.ty "list", .ty "tuple"])) (.ref b) (.type "dict") := fun p hp b zs e => e.elim (fun e => .base (.dK (show upd H p _ b = _ by rw [upd_ne (ne_of_none e hp)]; exact e))) fun ⟨o, e⟩ => .fDict (o := o) (show upd H p _ b = _ by rw [upd_ne (ne_of_none e hp)]; exact e)
        refine ⟨.ref a, rfl, by show 2 ≤ sizeLine; rw [sizeLine_eq]; omega, fun p hp => ⟨.ref a, p, _, _, _, false, rfl, upd_same, .cons (.ty "list") (.cons (.ty "tuple") .nil), tyA p hp a kvs (.inl ea), kitAny_cons (b := false) (kit_ty (by decide +kernel)) (fun _ => kitAny_cons (b := false) (kit_ty (by decide +kernel)) (fun _ => kitAny_nil) (fun z => by cases z)) (fun z => by cases z), false, rfl, iteF ?_⟩⟩
        have s1 : Same H (upd H p (.tup [.ty "list", .ty "tuple"])) := same_upd hp
        refine ⟨_, rfl, _, _, _, _, true, rfl, .ty "dict", tyA p hp a kvs (.inl ea), kit_ty (by decide +kernel), true, rfl, iteT ?_⟩
        refine ⟨_, rfl, _, _, _, _, true, rfl, .ty "dict", tyA p hp a' kvs' eb, kit_ty (by decide +kernel), true, rfl, ?_⟩
        have ea1 : upd H p (.tup [.ty "list", .ty "tuple"]) a = some (.dK kvs) := s1 _ _ ea0
        have eb1 : R1 (upd H p (.tup [.ty "list", .ty "tuple"])) a' kvs' := (extR_same s1).d eb
        have hx1 : OkAt (rm (upd H p (.tup [.ty "list", .ty "tuple"])) a) kvs ds := hx.ext (rm_ext (same_ext s1))
        have hy1 : OkG R1 (rm (upd H p (.tup [.ty "list", .ty "tuple"])) a') kvs' ds := hy.mv mv_R (extR_rm (extR_same s1))
        generalize upd H p (.tup [.ty "list", .ty "tuple"]) = H1 at s1 ea1 eb1 hx1 hy1 ⊢
        have kx := hx.keys
        have ky := hy.keys
        have rdn : ∀ {G : Hp} {q : Addr} {o : HO} {b : Addr} {us : List (Key × V)}, G q = none → R1 G b us → R1 (upd G q o) b us := fun {G q o b us} hq e => (extR_same (same_upd hq)).d e
        refine ⟨_, rfl, a, kvs, rfl, .inl ea1, fun q1 hq1 => ⟨_, rfl, a', kvs', rfl, rdn hq1 eb1, fun q2 hq2 => ?_⟩⟩
        have s2 : Same H1 (upd H1 q1 (.lst (kvs.map fun kv => kV kv.1))) := same_upd hq1
        have s3 : Same (upd H1 q1 (.lst (kvs.map fun kv => kV kv.1))) (upd (upd H1 q1 (.lst (kvs.map fun kv => kV kv.1))) q2 (.lst (kvs'.map fun kv => kV kv.1))) := same_upd hq2
        have e1 := s3 _ _ (show upd H1 q1 (.lst (kvs.map fun kv => kV kv.1)) q1 = _ from upd_same)
        have e2 : upd (upd H1 q1 (.lst (kvs.map fun kv => kV kv.1))) q2 (.lst (kvs'.map fun kv => kV kv.1)) q2 = _ := upd_same
        have s23 := s2.trans s3
        generalize upd (upd H1 q1 (.lst (kvs.map fun kv => kV kv.1))) q2 (.lst (kvs'.map fun kv => kV kv.1)) = H2 at e1 e2 s23 ⊢
        rw [kx] at e1
        rw [ky] at e2
        have keysAt : ∀ (R : RK) (G : Hp) (es : List (Key × O)), (∀ kd ∈ es, kok kd.1) → OsG R G (es.map fun kd => kV kd.1) (es.map fun kd => kO kd.1) := by
          intro R G es
          induction es with
          | nil => intro _; exact .nil
          | cons x r ih => intro hl; exact .cons (kO_at (hl x List.mem_cons_self)) (ih fun kd h => hl kd (List.mem_cons_of_mem _ h))
        have kdep : ∀ es : List (Key × O), odepAll (es.map fun kd => kO kd.1) = 0 := by
          intro es
          induction es with
          | nil => rfl
          | cons x r ih => simp only [List.map_cons, odepAll, kO_dep, ih]; rfl
        have kwf : ∀ es : List (Key × O), owfAll (es.map fun kd => kO kd.1) = true := by
          intro es
          induction es with
          | nil => rfl
          | cons x r ih => simp only [List.map_cons, owfAll, kO_wf, ih]; rfl
        refine hsp _ _ (.l (ds.map fun kd => kO kd.1)) _ _ (.l e1 (keysAt _ _ _ lk)) (.l e2 (keysAt _ _ _ lk)) ?_ ?_ fun H4 s4 => ?_
        · rw [O.wf, kwf, List.length_map, decide_eq_true l4]
          rfl
        · rw [O.dep, kdep]
          simp only [O.dep] at hn
          omega
        have ea4 : H4 a = some (.dK kvs) := s4 _ _ (s23 _ _ ea1)
        have eb4 : R1 H4 a' kvs' := (extR_same (s23.trans s4)).d eb1
        have hx4 : OkAt (rm H4 a) kvs ds := hx1.ext (rm_ext (same_ext (s23.trans s4)))
        have hy4 : OkG R1 (rm H4 a') kvs' ds := hy1.mv mv_R (extR_rm (extR_same (s23.trans s4)))
        have s04 : Same H H4 := s1.trans (s23.trans s4)
        refine ⟨_, rfl, true, rfl, a, .dK kvs, ea4, trivial, fun od => ⟨_, rfl, a, od, rfl, .inl ⟨kvs, upd_same, fun D hD => ?_⟩⟩⟩
        have nDa : a ≠ D := ne_of_none upd_same hD
        have nHD : H4 D = none := by
          rw [upd_ne nDa.symm] at hD
          exact hD
        refine lc_it walk_keys (fun i H' => Same (upd H4 a (.frz od (.dK kvs))) H' ∧ H' D = some (.lst (List.replicate i (.bl true)))) ⟨same_upd hD, upd_same⟩ (fun i H' _ q => q.1 _ _ upd_same) ?_ ?_
        · rintro i x H' H2' hi ⟨sI, eD⟩ ⟨rfl, k0, v0, ek, rfl⟩
          obtain ⟨z, d, e5, rfl, _⟩ := hx4.at_ ek
          obtain ⟨v1, g1, o1⟩ := hx4.key nd e5
          obtain ⟨v2, g2, o2⟩ := hy4.key nd e5
          have rb : Rd H2' a' (.dK kvs') := by
            by_cases z : a' = a
            · rw [z] at eb4 ⊢
              rcases eb4 with e | ⟨o, e⟩
              · rw [ea4] at e
                cases e
                exact .inr ⟨od, sI _ _ upd_same⟩
              · rw [ea4] at e
                cases e
            · rcases eb4 with e | ⟨o, e⟩
              · exact .inl (sI _ _ (by rw [upd_ne z]; exact e))
              · exact .inr ⟨o, sI _ _ (by rw [upd_ne z]; exact e)⟩
          refine ⟨rfl, _, rfl, _, rfl, a, v1, rfl, .inl ⟨kvs, k0, .inr ⟨od, sI _ _ upd_same⟩, rfl, g1.symm⟩, _, rfl, _, rfl, a', v2, rfl, .inl ⟨kvs', k0, rb, rfl, g2.symm⟩, ?_⟩
          refine hsp _ _ d _ _ (o1.same (fun b o e => sI _ _ (rm_upd b o e))) ((o2.extR (extR_same rm_sub)).extR ⟨fun e => sI _ _ ((extR_lock ea4).l e), fun e => sI _ _ ((extR_lock ea4).t e), fun e => (extR_same sI).d ((extR_lock ea4).d e)⟩) (owfKs_at wk e5) (by have := odepKs_at e5; simp only [O.dep] at hn; omega) fun H3 s3' => ⟨_, s3' _ _ eD, by rw [List.length_replicate, sizeLine_eq]; have := (List.getElem?_eq_some_iff.mp e5).1; omega, ?_, ?_⟩
          · exact same_over (sI.trans s3') hD
          · rw [upd_same, ← List.replicate_succ']
        · rintro H' ⟨sI, eD⟩
          refine ⟨sI _ _ upd_same, D, List.replicate kvs.length true, rfl, SqL.of (by rw [upd_ne nDa.symm, eD, List.map_replicate]), ?_⟩
          have e : (List.replicate kvs.length true).all id = true := by
            rw [List.all_eq_true]
            intro b hb
            exact (List.mem_replicate.mp hb).2
          rw [e]
          refine k _ fun b o q => ?_
          have q4 := s04 _ _ q
          by_cases z : b = a
          · subst z
            rw [ea4] at q4
            rw [upd_same]
            exact q4
          · rw [upd_ne z]
            exact sI _ _ (by rw [upd_ne z]; exact q4)
theorem ok_exactO {f : Addr} {fd : FuncData} (T : Top K mg "_law_exact" sLExact pLExact f fd) (B : Blt mg) : ∀ n : Nat, FnOk P w K mg base CX0 (1 + n) f fd pLExact (spExactO n)
  | 0 => exactO_step T B (n := 0) fn_vacO (fun _ _ _ _ _ _ _ _ h => absurd h (by omega))
  | n + 1 => exactO_step T B (n := n + 1) (ok_exactO T B n) (fun v v' x H Q h1 h2 hw hd k => ⟨v, v', x, rfl, h1, h2, hw, by omega, k⟩)
end
end Q4

namespace Q4
open PySem PySem.Spec PyProof.Rows L2 KT LamX
open PySem.W (Frag)
/-! ### _law_same of any data without dictionaries: all of it new -/
theorem putK_nw {kvs : List (Key × V)} {k : Key} {v : V} (h : k ∉ kvs.map (·.1)) : putK kvs k v = kvs ++ [(k, v)] := by
  unfold putK
  rw [if_neg]
  intro e
  obtain ⟨kv, m, q⟩ := List.any_eq_true.mp e
  exact h (List.mem_map.mpr ⟨kv, m, of_decide_eq_true q⟩)
theorem foldK_nd : ∀ {more kvs : List (Key × V)}, ((kvs ++ more).map (·.1)).Nodup → more.foldl (fun acc kv => putK acc kv.1 kv.2) kvs = kvs ++ more
  | [], kvs, _ => by simp
  | kv :: more, kvs, h => by
    have hn : kv.1 ∉ kvs.map (·.1) := by
      intro m
      rw [List.map_append, List.map_cons, List.nodup_append] at h
      exact h.2.2 _ m _ List.mem_cons_self rfl
    rw [List.foldl_cons, putK_nw hn]
    rw [foldK_nd (by rw [List.append_assoc]; exact h)]
    rw [List.append_assoc]
    rfl
theorem mergeK_nw {kvs : List (Key × V)} (h : (kvs.map (·.1)).Nodup) : mergeK [] kvs = kvs := by
  have := foldK_nd (more := kvs) (kvs := []) h
  exact this
/-- what is new in H' -/
def nw (H H' : Hp) : Hp := fun b => match H b with
  | none => H' b
  | some _ => none
theorem nw_at {H H' : Hp} {b : Addr} {o : HO} (n : H b = none) (e : H' b = some o) : nw H H' b = some o := by
  unfold nw
  rw [n]
  exact e
theorem nw_eq {H H' : Hp} {b : Addr} {o : HO} (e : nw H H' b = some o) : H b = none ∧ H' b = some o := by
  unfold nw at e
  cases q : H b with
  | none => rw [q] at e; exact ⟨rfl, e⟩
  | some _ => rw [q] at e; cases e
theorem nw_sub {H H' : Hp} : Same (nw H H') H' := fun b o e => (nw_eq e).2
section
variable {P : Program} {w : World} {K : Frag} {mg : Str → Option Value} {base : Heap}
def spSameO (n : Nat) : Sp := fun vs H Q _ => ∃ v x, vs = [v] ∧ OAt H v x ∧ x.wf = true ∧ x.dep ≤ n ∧ ∀ v' H', Same H H' → OAt (nw H H') v' x → Q v' H'
theorem OsG.snoc {R : RK} {H : Hp} {vs : List V} {ds : List O} {v : V} {d : O} (h : OsG R H vs ds) (h' : OG R H v d) : OsG R H (vs ++ [v]) (ds ++ [d]) := h.append (.cons h' .nil)
theorem OkG.snoc {R : RK} {H : Hp} {k : Key} {v : V} {d : O} (kk : kok k) (h' : OG R H v d) : ∀ {ds : List (Key × O)} {vs : List (Key × V)}, OkG R H vs ds → OkG R H (vs ++ [(k, v)]) (ds ++ [(k, d)])
  | _, _, .nil => .cons kk h' .nil
  | _, _, .cons a b r => .cons a b (OkG.snoc kk h' r)
end
end Q4

namespace XO
open PySem PySem.Spec PySem.Builtin PyProof.Rows L2 SeqAt MeetsSeq
open PySem.Sem (wp)
/-! ### a text beside a dict, whatever is in it -/
theorem str_eq_declines_dict (b : Str) (u : Tok) (l : Addr) (c : Value) (es : Array DictEntry) (ep : _) (dd : Option Addr) (sl : Array (Option Value)) :
    Meets (Builtin.«str.__eq__» ⟨[.str b u, .ref l], []⟩) (fun _ R s => s.heap.get? l = some { cls := c, dict := dd, data := .dict es ep, slots := sl } ∧ R (.ok (.ret .notImplemented)) s) :=
  .of_wp fun prog w A R s h => by obtain ⟨hp, g, d, tk, os⟩ := s; obtain ⟨hl, h⟩ := h; wp_walk using wpAny_loadPart' hl, wpAny_load hl; exact ⟨_, rfl, h⟩
theorem dict_eq_declines_str (l : Addr) (es : Array DictEntry) (ep : _) (dd : Option Addr) (sl : Array (Option Value)) (b : Str) (u : Tok) :
    Meets (Builtin.«dict.__eq__» ⟨[.ref l, .str b u], []⟩) (fun _ R s => s.heap.get? l = some { cls := .type "dict", dict := dd, data := .dict es ep, slots := sl } ∧ R (.ok (.ret .notImplemented)) s) :=
  .of_wp fun prog w A R s h => by obtain ⟨hp, g, d, tk, os⟩ := s; obtain ⟨hl, h⟩ := h; have f1 := F.sub_str_dict; wp_walk using wpAny_loadPart' hl, wpAny_load hl; exact ⟨_, rfl, h⟩
section
variable {A : Around} {s : Shared}
theorem rc_str_dict {l : Addr} {es : Array DictEntry} {ep : _} {dd : Option Addr} {sl : Array (Option Value)} (b : Str) (u : Tok) (ho : s.heap.get? l = some { cls := .type "dict", dict := dd, data := .dict es ep, slots := sl }) (hu : A.units < cLine) : RcAt A s (.str b u) (.ref l) false := fun prog w E Q h =>
  rc_eq_decline_or (k := false) (typeIs_str s b u) ⟨_, ho, rfl⟩ (by decide) F.sub_dict_str F.slot_str_eq F.slot_dict_eq_refl
    (fun _ hq => call_meets F.slot_str_eq (typeIs_str s b u) F.entry_str_eq (F.args_str_eq_2 _ _) (str_eq_declines_dict b u l (.type "dict") es ep dd sl) ⟨ho, hq⟩)
    (fun _ hq => call_meets F.slot_dict_eq_refl ⟨_, ho, rfl⟩ F.entry_dict_eq (F.args_dict_eq_2 _ _) (dict_eq_declines_str l es ep dd sl b u) ⟨ho, hq⟩)
    (fun _ hq => wpAny_of_eq (rfl : isSame (.str b u) (.ref l) = pure false) hq) (.inr hu) h
theorem eq_str_dict {l : Addr} {es : Array DictEntry} {ep : _} {dd : Option Addr} {sl : Array (Option Value)} (b : Str) (u : Tok) (ho : s.heap.get? l = some { cls := .type "dict", dict := dd, data := .dict es ep, slots := sl }) (hu : A.units < cLine) : EqAt A s (.str b u) (.ref l) false := fun prog w E Q h => by
  unfold eqBool
  refine wpAny_holding ?_
  refine wpAny_ite_split (fun hab => absurd (eq_of_beq hab) nofun) (fun _ => ?_)
  exact wpAny_bind (rc_str_dict b u ho hu prog w E _ (wpAny_truthy_bool h))
end
section
variable {X : Cx}
/-- a list, a tuple, a dict -/
def Box (K : PySem.W.Frag) (H : Hp) (q : Addr) : Prop := (∃ xs, SqL K H q xs) ∨ (∃ xs, SqT K H q xs) ∨ (∃ kvs, H q = some (.dK kvs)) ∨ ∃ kvs, H q = some (.dT kvs)
theorem eq_box {pins : List (Addr × Obj)} {σ : L2.St} {H : Hp} {s : Shared} {A : Around} {q : Addr} (I : Inv X pins σ H s) (h : Box X.K H q) (b : Str) (u : Tok) (hu : A.units < cLine) : EqAt A s (.str b u) (.ref q) false := by
  rcases h with ⟨xs, h⟩ | ⟨xs, h⟩ | ⟨kvs, h⟩ | ⟨kvs, h⟩
  · obtain ⟨its, r, pl, _⟩ := I.list h
    exact EqAt.str_list b u pl.isList hu
  · obtain ⟨its, r, pl, _⟩ := I.tuple h
    exact EqAt.str_tuple b u pl hu
  · obtain ⟨_, _, vs, _, o, es, ep, e, x, d, _⟩ := (show ObjOk X.prog X.w H s.heap q (.dK kvs) from I.hok q _ h)
    obtain ⟨c, dd, dt, sl⟩ := o
    simp only at d
    subst d
    obtain rfl : c = .type "dict" := x.1
    exact eq_str_dict b u e hu
  · obtain ⟨_, _, vs, _, o, es, ep, e, x, d, _⟩ := (show ObjOk X.prog X.w H s.heap q (.dT kvs) from I.hok q _ h)
    obtain ⟨c, dd, dt, sl⟩ := o
    simp only at d
    subst d
    obtain rfl : c = .type "dict" := x.1
    exact eq_str_dict b u e hu
theorem any_no_ (a : Array Value) : (a.any fun _ => false) = false := by
  rw [Array.any_eq_false]
  intro i hi h
  cases h
/-- a box in a list or tuple of texts: not in it -/
def rInBox (K : PySem.W.Frag) (neg : Bool) : R2 := fun x y H Q => ∃ (q p : Addr) (zs : List Str), x = .ref q ∧ y = .ref p ∧ Box K H q ∧ (SqL K H p (zs.map V.str) ∨ SqT K H p (zs.map V.str)) ∧ Q (.bl neg) H
theorem texts_of {zs : List Str} : ∀ {us : List Value}, Vals (zs.map V.str) us → ∀ w ∈ us, ∃ b t, w = .str b t := by
  induction zs with
  | nil => intro us r; cases r; intro w h; cases h
  | cons z r i =>
    intro us rv w hw
    rw [List.map_cons] at rv
    cases rv with
    | cons a t =>
      obtain ⟨tk, rfl⟩ := a
      rcases List.mem_cons.mp hw with e | h
      · exact ⟨_, _, e⟩
      · exact i t w h
theorem op_inBox (hu : X.A.units + 1 < cLine) : OpR X (compareOp .In) (rInBox X.K false) := by
  intro pins s σ H x y v u Q I rx ry h
  obtain ⟨q, p, zs, rfl, rfl, hb, hq, k⟩ := h
  cases rx
  cases ry
  rcases hq with hq | hq
  · obtain ⟨its, r, pl, hz⟩ := I.list hq
    refine SeqAt.in_listAt (fun _ => false) pl.isList (fun w hw => ?_) ⟨.bl _, H, I, rfl, ?_⟩
    · obtain ⟨b, t, rfl⟩ := texts_of r w (by simpa using hw)
      exact eq_box I hb b t hu
    · rw [any_no_ its.toArray]
      exact k
  · obtain ⟨its, r, pl, hz⟩ := I.tuple hq
    refine SeqAt.in_tupleAt (fun _ => false) pl (fun w hw => ?_) ⟨.bl _, H, I, rfl, ?_⟩
    · obtain ⟨b, t, rfl⟩ := texts_of r w (by simpa using hw)
      exact eq_box I hb b t hu
    · rw [any_no_ its.toArray]
      exact k
theorem op_notInBox (hu : X.A.units + 1 < cLine) : OpR X (compareOp .NotIn) (rInBox X.K true) := by
  intro pins s σ H x y v u Q I rx ry h
  obtain ⟨q, p, zs, rfl, rfl, hb, hq, k⟩ := h
  cases rx
  cases ry
  rcases hq with hq | hq
  · obtain ⟨its, r, pl, hz⟩ := I.list hq
    refine SeqAt.notIn_listAt (fun _ => false) pl.isList (fun w hw => ?_) ⟨.bl _, H, I, rfl, ?_⟩
    · obtain ⟨b, t, rfl⟩ := texts_of r w (by simpa using hw)
      exact eq_box I hb b t hu
    · rw [any_no_ its.toArray]
      exact k
  · obtain ⟨its, r, pl, hz⟩ := I.tuple hq
    refine SeqAt.notIn_tupleAt (fun _ => false) pl (fun w hw => ?_) ⟨.bl _, H, I, rfl, ?_⟩
    · obtain ⟨b, t, rfl⟩ := texts_of r w (by simpa using hw)
      exact eq_box I hb b t hu
    · rw [any_no_ its.toArray]
      exact k
/-- whether a value is one of some texts -/
def hasT (zs : List Str) : V → Bool
  | .str z => decide (z ∈ zs)
  | _ => false
/-- a text, a number, a truth value, None, a list, a tuple, a dict -/
inductive AnyV (K : PySem.W.Frag) (H : Hp) : V → Prop
  | str (z : Str) : AnyV K H (.str z)
  | int (i : Int) : AnyV K H (.int i)
  | bl (b : Bool) : AnyV K H (.bl b)
  | non : AnyV K H .non
  | box {q : Addr} : Box K H q → AnyV K H (.ref q)
theorem eq_anyV {pins : List (Addr × Obj)} {σ : L2.St} {H : Hp} {s : Shared} {A : Around} {x : V} {v : Value} (I : Inv X pins σ H s) (h : AnyV X.K H x) (r : RelV x v) (b : Str) (t : Tok) (hu : A.units < cLine) : EqAt A s (.str b t) v (hasT [b] x) := by
  cases h with
  | str z =>
    obtain ⟨u, rfl⟩ := r
    have e : hasT [b] (.str z) = (b == z) := by
      show decide (z ∈ [b]) = (b == z)
      rw [Bool.eq_iff_iff, decide_eq_true_eq, beq_iff_eq, List.mem_singleton]
      exact eq_comm
    rw [e]
    exact EqAt.str_str b t z u
  | int i =>
    obtain ⟨u, rfl⟩ := r
    exact EqAt.str_int b t i u
  | bl c =>
    cases r
    exact EqAt.str_bool b t c
  | non =>
    cases r
    exact EqAt.str_none b t
  | box hb =>
    cases r
    exact eq_box I hb b t hu
def eT (x : V) : Value → Bool
  | .str b _ => hasT [b] x
  | _ => false
theorem any_eT (x : V) : ∀ {zs : List Str} {us : List Value}, Vals (zs.map V.str) us → us.any (eT x) = hasT zs x
  | [], us, r => by
    cases r
    cases x <;> rfl
  | z :: zs, us, r => by
    rw [List.map_cons] at r
    cases r with
    | cons a q =>
      obtain ⟨t, rfl⟩ := a
      rw [List.any_cons, any_eT x q]
      cases x with
      | str y =>
        show (decide (y ∈ [z]) || decide (y ∈ zs)) = decide (y ∈ z :: zs)
        rw [Bool.eq_iff_iff, Bool.or_eq_true, decide_eq_true_eq, decide_eq_true_eq, decide_eq_true_eq, List.mem_singleton, List.mem_cons]
      | _ => rfl
/-- any value in a list or tuple of texts -/
def rInAny (K : PySem.W.Frag) (neg : Bool) : R2 := fun x y H Q => ∃ (p : Addr) (zs : List Str), y = .ref p ∧ AnyV K H x ∧ (SqL K H p (zs.map V.str) ∨ SqT K H p (zs.map V.str)) ∧ Q (.bl (if neg = true then !hasT zs x else hasT zs x)) H
theorem op_inAny (hu : X.A.units + 1 < cLine) : OpR X (compareOp .In) (rInAny X.K false) := by
  intro pins s σ H x y v u Q I rx ry h
  obtain ⟨p, zs, rfl, hb, hq, k⟩ := h
  cases ry
  rw [if_neg (by decide)] at k
  rcases hq with hq | hq
  · obtain ⟨its, r, pl, hz⟩ := I.list hq
    refine SeqAt.in_listAt (eT x) pl.isList (fun w hw => ?_) ⟨.bl _, H, I, rfl, ?_⟩
    · obtain ⟨b, t, rfl⟩ := texts_of r w (by simpa using hw)
      exact eq_anyV I hb rx b t hu
    · rw [show its.toArray.any (eT x) = its.any (eT x) by simp, any_eT x r]
      exact k
  · obtain ⟨its, r, pl, hz⟩ := I.tuple hq
    refine SeqAt.in_tupleAt (eT x) pl (fun w hw => ?_) ⟨.bl _, H, I, rfl, ?_⟩
    · obtain ⟨b, t, rfl⟩ := texts_of r w (by simpa using hw)
      exact eq_anyV I hb rx b t hu
    · rw [show its.toArray.any (eT x) = its.any (eT x) by simp, any_eT x r]
      exact k
theorem op_notInAny (hu : X.A.units + 1 < cLine) : OpR X (compareOp .NotIn) (rInAny X.K true) := by
  intro pins s σ H x y v u Q I rx ry h
  obtain ⟨p, zs, rfl, hb, hq, k⟩ := h
  cases ry
  rw [if_pos rfl] at k
  rcases hq with hq | hq
  · obtain ⟨its, r, pl, hz⟩ := I.list hq
    refine SeqAt.notIn_listAt (eT x) pl.isList (fun w hw => ?_) ⟨.bl _, H, I, rfl, ?_⟩
    · obtain ⟨b, t, rfl⟩ := texts_of r w (by simpa using hw)
      exact eq_anyV I hb rx b t hu
    · rw [show its.toArray.any (eT x) = its.any (eT x) by simp, any_eT x r]
      exact k
  · obtain ⟨its, r, pl, hz⟩ := I.tuple hq
    refine SeqAt.notIn_tupleAt (eT x) pl (fun w hw => ?_) ⟨.bl _, H, I, rfl, ?_⟩
    · obtain ⟨b, t, rfl⟩ := texts_of r w (by simpa using hw)
      exact eq_anyV I hb rx b t hu
    · rw [show its.toArray.any (eT x) = its.any (eT x) by simp, any_eT x r]
      exact k
end
end XO

namespace Q4
open PySem PySem.Spec PyProof.Rows L2 NdefX LamX KT
open PySem.W (Frag)
/-! ### any values before is_kind -/
/-- any value that stands ahead in a tuple -/
inductive HeadV (H : Hp) : V → Prop
  | str (z : Str) : HeadV H (.str z)
  | int (i : Int) : HeadV H (.int i)
  | bl (b : Bool) : HeadV H (.bl b)
  | non : HeadV H .non
  | lst {p : Addr} {xs : List V} : H p = some (.lst xs) → HeadV H (.ref p)
  | tup {p : Addr} {xs : List V} : H p = some (.tup xs) → HeadV H (.ref p)
  | dK {p : Addr} {kvs : List (Key × V)} : H p = some (.dK kvs) → HeadV H (.ref p)
theorem HeadV.any {K : Frag} {H : Hp} {v : V} (h : HeadV H v) : XO.AnyV K H v := by
  cases h with
  | str z => exact .str z
  | int i => exact .int i
  | bl b => exact .bl b
  | non => exact .non
  | lst e => exact .box (.inl ⟨_, SqL.of e⟩)
  | tup e => exact .box (.inr (.inl ⟨_, SqT.of e⟩))
  | dK e => exact .box (.inr (.inr (.inl ⟨_, e⟩)))
theorem HeadV.same {H H' : Hp} {v : V} (s : Same H H') (h : HeadV H v) : HeadV H' v := by
  cases h with
  | str z => exact .str z
  | int i => exact .int i
  | bl b => exact .bl b
  | non => exact .non
  | lst e => exact .lst (s _ _ e)
  | tup e => exact .tup (s _ _ e)
  | dK e => exact .dK (s _ _ e)
def sgs : List Str := ["over", "then", "under"]
/-- a value that is not gone into -/
inductive LeafV (H : Hp) : V → Prop
  | str (z : Str) : z.length ≤ 1000000 → LeafV H (.str z)
  | int (i : Int) : LeafV H (.int i)
  | bl (b : Bool) : LeafV H (.bl b)
  | non : LeafV H .non
  | lst {p : Addr} {xs : List V} : H p = some (.lst xs) → LeafV H (.ref p)
  | dK {p : Addr} {kvs : List (Key × V)} : H p = some (.dK kvs) → LeafV H (.ref p)
  | tup {p : Addr} {xs : List V} : H p = some (.tup xs) → xs.length ≠ 3 → LeafV H (.ref p)
  | odd {p : Addr} {x y z : V} : H p = some (.tup [x, y, z]) → HeadV H x → XO.hasT sgs x = false → LeafV H (.ref p)
theorem LeafV.same {H H' : Hp} {v : V} (s : Same H H') (h : LeafV H v) : LeafV H' v := by
  cases h with
  | str z l => exact .str z l
  | int i => exact .int i
  | bl b => exact .bl b
  | non => exact .non
  | lst e => exact .lst (s _ _ e)
  | dK e => exact .dK (s _ _ e)
  | tup e l => exact .tup (s _ _ e) l
  | odd e h n => exact .odd (s _ _ e) (h.same s) n
def isWordV : V → Bool
  | .str z => isWB z
  | _ => false
/-- a value, whether it is a type, how much is gone into -/
inductive OV (H : Hp) : V → Bool → Nat → Prop
  | leaf {v : V} : LeafV H v → OV H v (isWordV v) 1
  | node {p : Addr} {g : Sg} {x y : V} {a b : Bool} {n m : Nat} : H p = some (.tup [.str g.str, x, y]) → OV H x a n → OV H y b m → OV H (.ref p) (a && b) (n + m + 1)
theorem OV.same {H H' : Hp} {v : V} {b : Bool} {n : Nat} (s : Same H H') (h : OV H v b n) : OV H' v b n := by
  induction h with
  | leaf h => exact .leaf (h.same s)
  | node e _ _ i j => exact .node (s _ _ e) i j
theorem TyAt.ov {H : Hp} {v : V} {t : Ty} (h : TyAt H v t) : OV H v true t.size := by
  induction h with
  | @w z h =>
    have q := OV.leaf (LeafV.str (H := H) z (by have := h.2.1; omega))
    rw [show isWordV (.str z) = true from isWB_of h] at q
    exact q
  | @n p g x y a b e _ _ i j =>
    have q := OV.node e i j
    rw [Bool.and_self] at q
    have : a.size + b.size + 1 = (Ty.n g a b).size := by simp only [Ty.size]; omega
    rw [← this]
    exact q
section
variable {P : Program} {w : World} {K : Frag} {mg : Str → Option Value} {base : Heap}
def clsV : V → String
  | .str _ => "str"
  | .int _ => "int"
  | .bl _ => "bool"
  | _ => "NoneType"
def spIsWordA : Sp := fun vs H Q _ => ∃ v, vs = [v] ∧ LeafV H v ∧ ∀ H', Same H H' → Q (.bl (isWordV v)) H'
theorem ok_isWordA {f : Addr} {fd : FuncData} (T : Top K mg "is_word" sIsWord pIsWord f fd) (B : Blt mg) (G : Gbl K mg) : FnOk P w K mg base CX0 1 f fd pIsWord spIsWordA := by
  obtain ⟨tl, gl⟩ := G.letters
  refine T.F.ok scIsWord (fun vs H Q E h => ?_) (fun cdv A outer s H vs Q E hr h => ?_)
  · obtain ⟨_, rfl, _⟩ := h
    rfl
  · obtain ⟨v, rfl, hd, k⟩ := h
    refine ⟨_, (pss_cons (ps_if (PW.pt (pw_or (pt_not (pt_val (pe_callB call_isi (by rfl) B.isi (by decide +kernel) (pa_cons (pv 0) (pa_cons (pe_bltn (v := .ty "str") (by rfl) B.str_ (by decide +kernel) rfl) pa_nil))))) (pw_or1 (pt_not (pt_chain op_le op_le pe_int (pe_callB call_len_str (by rfl) B.len PySem.boot_len (pa_cons (pv 0) pa_nil)) pe_int))))) (pss_one (ps_ret pe_bl)) pss_nil)
      (pss_one (ps_ret (pe_callB (cr_all rfl) (by rfl) B.all (by decide +kernel) (pa_cons (pe_lc (own := [("letter", 1)]) (g := gName 1) (tt := tYes) rfl scIsWord.nd (pi_str (pv 0)) (blkOk_by (N := nIsWord) (sc := defScope sIsWord) (by decide +kernel)) (fun _ _ _ _ _ => pg_name (i := 1) scIsWord.nd rfl (Or.inl rfl)) (fun _ _ _ _ _ => pts_nil) (fun _ _ _ _ _ => (pe_cmpR op_in_sign (pv 1) (pe_glob (v := .str abc) rfl gl ⟨tl, rfl⟩) (by rfl)))) pa_nil))))), ?_⟩
    cases hd with
    | int i => exact ⟨_, rfl, _, _, _, _, false, rfl, .ty "str", .base (.int i), kit_ty (by decide +kernel), _, rfl, iteT (k _ (Same.refl _))⟩
    | bl b => exact ⟨_, rfl, _, _, _, _, false, rfl, .ty "str", .base (.bl b), kit_ty (by decide +kernel), _, rfl, iteT (k _ (Same.refl _))⟩
    | non => exact ⟨_, rfl, _, _, _, _, false, rfl, .ty "str", .base .non, kit_ty (by decide +kernel), _, rfl, iteT (k _ (Same.refl _))⟩
    | lst e => exact ⟨_, rfl, _, _, _, _, false, rfl, .ty "str", .base (.lst e), kit_ty (by decide +kernel), _, rfl, iteT (k _ (Same.refl _))⟩
    | dK e => exact ⟨_, rfl, _, _, _, _, false, rfl, .ty "str", .base (.dK e), kit_ty (by decide +kernel), _, rfl, iteT (k _ (Same.refl _))⟩
    | tup e l => exact ⟨_, rfl, _, _, _, _, false, rfl, .ty "str", .base (.tup e), kit_ty (by decide +kernel), _, rfl, iteT (k _ (Same.refl _))⟩
    | odd e h n => exact ⟨_, rfl, _, _, _, _, false, rfl, .ty "str", .base (.tup e), kit_ty (by decide +kernel), _, rfl, iteT (k _ (Same.refl _))⟩
    | str z hl =>
      refine ⟨_, rfl, _, _, _, _, true, rfl, .ty "str", .base (.str z), kit_ty (by decide +kernel), _, rfl, ?_⟩
      refine iteF ⟨_, rfl, _, rfl, by rw [sizeLine_eq]; omega, _, _, rfl, rfl, _, rfl, ?_⟩
      have e0 : isWordV (.str z) = (decide (1 ≤ z.length) && decide (z.length ≤ 8) && z.cps.toList.all fun c => decide (97 ≤ c) && decide (c ≤ 122)) := rfl
      rw [e0] at k
      by_cases c1 : 1 ≤ z.length
      · rw [decide_eq_true (show (1 : Int) ≤ (z.length : Int) by omega)]
        refine iteT ⟨_, _, rfl, rfl, _, rfl, ?_⟩
        by_cases c2 : z.length ≤ 8
        · rw [decide_eq_true (show (z.length : Int) ≤ 8 by omega)]
          refine iteF ⟨_, rfl, _, rfl, fun D hD => ?_⟩
          rw [decide_eq_true c1, decide_eq_true c2, Bool.true_and, Bool.true_and] at k
          refine lc_it walk_str (fun i H' => H' = upd H D (.lst ((z.cps.toList.take i).map fun c => V.bl (decide (c ∈ abc.cps.toList))))) (by rw [List.take_zero]; rfl) (fun _ _ _ _ => trivial) ?_ ?_
          · rintro i x H' H2 hi rfl ⟨rfl, c, hc, rfl⟩
            have hc' : z.cps.toList[i]? = some c := by rw [Array.getElem?_toList]; exact hc
            refine ⟨rfl, _, rfl, c, abc, rfl, rfl, _, upd_same, ?_, ?_⟩
            · rw [List.length_map, List.length_take, sizeLine_eq]
              have : z.cps.size ≤ 1000000 := hl
              omega
            · rw [upd_upd, List.take_add_one, hc', List.map_append]
              rfl
          · rintro H' rfl
            have lz : z.cps.size = z.cps.toList.length := by simp
            refine ⟨_, z.cps.toList.map fun c => decide (c ∈ abc.cps.toList), rfl, SqL.of (by rw [upd_same, lz, List.take_length, List.map_map]; rfl), ?_⟩
            have e : (z.cps.toList.map fun c => decide (c ∈ abc.cps.toList)).all id = z.cps.toList.all fun c => decide (97 ≤ c) && decide (c ≤ 122) := by
              rw [List.all_map]
              congr 1
              funext c
              exact abc_iff c
            rw [e]
            exact k _ (same_upd hD)
        · rw [decide_eq_false (show ¬ (z.length : Int) ≤ 8 by omega)]
          rw [decide_eq_false c2, Bool.and_false, Bool.false_and] at k
          exact iteT (k _ (Same.refl _))
      · rw [decide_eq_false (show ¬ (1 : Int) ≤ (z.length : Int) by omega)]
        rw [decide_eq_false c1, Bool.false_and, Bool.false_and] at k
        exact iteF ⟨_, rfl, iteT (k _ (Same.refl _))⟩
/-- whether is_kind goes into a value -/
def spIsSignedA : Sp := fun vs H Q _ => ∃ v b, vs = [v] ∧ ((b = false ∧ LeafV H v) ∨ (b = true ∧ ∃ (p : Addr) (g : Sg) (x y : V), v = .ref p ∧ H p = some (.tup [.str g.str, x, y]))) ∧ Q (.bl b) H
theorem ok_isSignedA {f : Addr} {fd : FuncData} (T : Top K mg "_is_signed" sIsSigned pIsSigned f fd) (B : Blt mg) (G : Gbl K mg) : FnOk P w K mg base CX0 1 f fd pIsSigned spIsSignedA := by
  obtain ⟨sa, gs, hs⟩ := G.signs
  refine T.F.ok scIsSigned (fun vs H Q E h => ?_) (fun cdv A outer s H vs Q E hr h => ?_)
  · obtain ⟨_, _, rfl, _⟩ := h
    rfl
  · obtain ⟨v, b, rfl, hd, k⟩ := h
    refine ⟨_, pss_one (ps_ret (pe_and (pe_callB call_isi (by rfl) B.isi (by decide +kernel) (pa_cons (pv 0) (pa_cons (pe_bltn (v := .ty "tuple") (by rfl) B.tuple (by decide +kernel) rfl) pa_nil))) (pe_and (pe_cmpR op_eq (pe_callB call_len_seq (by rfl) B.len PySem.boot_len (pa_cons (pv 0) pa_nil)) pe_int (nomark _)) (pe_one (pe_cmpR (XO.op_inAny (Nat.lt_of_le_of_lt (Nat.add_le_add_left (by decide : 1 ≤ 65) _) (hu65 hr))) (pe_ix ix_tup (pv 0) pe_int (fun _ _ => rfl)) (pe_glob (v := .ref sa) rfl gs rfl) (by rfl)))))), ?_⟩
    rcases hd with ⟨rfl, hd⟩ | ⟨rfl, p, g, x, y, rfl, e⟩
    · cases hd with
      | str z l => exact ⟨_, rfl, _, _, _, _, false, rfl, .ty "tuple", .base (.str z), kit_ty (by decide +kernel), _, rfl, k⟩
      | int i => exact ⟨_, rfl, _, _, _, _, false, rfl, .ty "tuple", .base (.int i), kit_ty (by decide +kernel), _, rfl, k⟩
      | bl b => exact ⟨_, rfl, _, _, _, _, false, rfl, .ty "tuple", .base (.bl b), kit_ty (by decide +kernel), _, rfl, k⟩
      | non => exact ⟨_, rfl, _, _, _, _, false, rfl, .ty "tuple", .base .non, kit_ty (by decide +kernel), _, rfl, k⟩
      | lst e => exact ⟨_, rfl, _, _, _, _, false, rfl, .ty "tuple", .base (.lst e), kit_ty (by decide +kernel), _, rfl, k⟩
      | dK e => exact ⟨_, rfl, _, _, _, _, false, rfl, .ty "tuple", .base (.dK e), kit_ty (by decide +kernel), _, rfl, k⟩
      | @tup p xs e l =>
        refine ⟨_, rfl, _, _, _, _, true, rfl, .ty "tuple", .base (.tup e), kit_ty (by decide +kernel), _, rfl, _, rfl, p, xs, rfl, .inr (SqT.of e), rfl, _, rfl, ?_⟩
        rw [decide_eq_false (show ¬ (V.int (xs.length : Int)) = V.int 3 from fun z => l (by injection z with z; omega))]
        exact k
      | @odd p x y z e h n =>
        refine ⟨_, rfl, _, _, _, _, true, rfl, .ty "tuple", .base (.tup e), kit_ty (by decide +kernel), _, rfl, _, rfl, p, _, rfl, .inr (SqT.of e), rfl, _, rfl, ?_⟩
        rw [decide_eq_true (show (V.int (([x, y, z] : List V).length : Int)) = V.int 3 from rfl)]
        refine ⟨_, rfl, p, _, _, _, rfl, rfl, SqT.of e, atI_nat (j := 0) rfl, sa, sgs, rfl, h.any, .inr (sqT_any hs), ?_⟩
        rw [if_neg (by decide), n]
        exact k
    · refine ⟨_, rfl, _, _, _, _, true, rfl, .ty "tuple", .base (.tup e), kit_ty (by decide +kernel), _, rfl, _, rfl, p, _, rfl, .inr (SqT.of e), rfl, _, rfl, ?_⟩
      rw [decide_eq_true (show (V.int (([.str g.str, x, y] : List V).length : Int)) = V.int 3 from rfl)]
      refine ⟨_, rfl, p, _, _, _, rfl, rfl, SqT.of e, atI_nat (j := 0) rfl, sa, sgs, rfl, .str _, .inr (sqT_any hs), ?_⟩
      have n : XO.hasT sgs (.str g.str) = true := by cases g <;> decide +kernel
      rw [if_neg (by decide), n]
      exact k
/-- is_kind of any value -/
def spIsKindA : Sp := fun vs H Q _ => ∃ v b n, vs = [v] ∧ OV H v b n ∧ n ≤ 1000000 ∧ ∀ H', Same H H' → Q (.bl b) H'
/-- values that wait -/
inductive OVs (H : Hp) : List V → Bool → Nat → Prop
  | nil : OVs H [] true 0
  | cons {v : V} {vs : List V} {a b : Bool} {n m : Nat} : OV H v a n → OVs H vs b m → OVs H (v :: vs) (a && b) (n + m)
theorem OVs.same {H H' : Hp} {vs : List V} {b : Bool} {n : Nat} (s : Same H H') (h : OVs H vs b n) : OVs H' vs b n := by
  induction h with
  | nil => exact .nil
  | cons a _ i => exact .cons (a.same s) i
theorem OV.pos {H : Hp} {v : V} {b : Bool} {n : Nat} (h : OV H v b n) : 1 ≤ n := by
  cases h <;> omega
theorem OVs.len {H : Hp} {vs : List V} {b : Bool} {n : Nat} (h : OVs H vs b n) : vs.length ≤ n := by
  induction h with
  | nil => exact Nat.le_refl _
  | cons a _ i => have := a.pos; simp only [List.length_cons]; omega
theorem ok_isKindA {f fs fw : Addr} {fd fds fdw : FuncData} (T : Top K mg "is_kind" sIsKind pIsKind f fd) (TS : Top K mg "_is_signed" sIsSigned pIsSigned fs fds) (TW : Top K mg "is_word" sIsWord pIsWord fw fdw) (B : Blt mg) (G : Gbl K mg) :
    FnOk P w K mg base CX0 2 f fd pIsKind spIsKindA := by
  have GS : FnOk P w K mg base CX0 1 fs fds pIsSigned spIsSignedA := ok_isSignedA TS B G
  have GW : FnOk P w K mg base CX0 1 fw fdw pIsWord spIsWordA := ok_isWordA TW B G
  refine T.F.ok scIsKind (fun vs H Q E h => ?_) (fun cdv A outer s H vs Q E hr h => ?_)
  · obtain ⟨_, _, _, rfl, _⟩ := h
    rfl
  · obtain ⟨v, kb, n, rfl, hd, hz, k⟩ := h
    refine ⟨_, (pss_cons (ps_set (i := 1) scIsKind.nd rfl (Or.inl rfl) (pe_lst (pa_cons (pv 0) pa_nil)))
      (pss_cons (ps_while PassesOwn.never (pt_truth (pv 1) (by intro _; rfl))
        (pss_cons (ps_set (i := 2) scIsKind.nd rfl (Or.inl rfl) (pe_bm0 PySem.F.plainAttrs_list PySem.F.slot_list_pop PySem.F.type_list_pop mt_pop (pv 1)))
      (pss_one (ps_if (pt_val (pe_call GS hr rfl TS.g TS.F.kp TS.b .nil pass0 (pa_cons (pv 2) pa_nil))) (pss_one (ps_expr (pe_bm PySem.F.plainAttrs_list PySem.F.slot_list_extend PySem.F.type_list_extend KT.mt_extT (pv 1) (pa_cons (pe_slice sl_tup (pv 2) (po_some pe_int) po_none) pa_nil))))
            (pss_one (ps_if (pt_not (pt_val (pe_call GW hr rfl TW.g TW.F.kp TW.b .nil pass0 (pa_cons (pv 2) pa_nil)))) (pss_one (ps_ret pe_bl)) pss_nil))))))
      (pss_one (ps_ret pe_bl)))), ?_⟩
    refine ⟨v, rfl, by show 1 ≤ sizeLine; rw [sizeLine_eq]; omega, fun W hW => ?_⟩
    refine ⟨fun m σ H' => ∃ (vs : List V) (b : Bool) (v2 : Option V), σ = [some v, some (.ref W), v2] ∧ H' W = some (.lst vs.reverse) ∧ OVs H vs b m ∧ m ≤ 1000000 ∧ kb = b ∧ Same H H',
      ⟨n, [v], kb, none, rfl, upd_same, by have q := OVs.cons hd .nil; rwa [Bool.and_true] at q, hz, rfl, same_upd hW⟩, ?_⟩
    rintro m σ H1 ⟨vs, b, v2, rfl, hL, hT, hm, rfl, hs⟩
    refine ⟨_, rfl, _, .inl ⟨_, SqL.of hL, rfl⟩, ?_⟩
    cases hT with
    | nil => exact iteF (k H1 hs)
    | @cons y vs a b n m h1 h2 =>
      have el : (y :: vs).reverse = vs.reverse ++ [y] := List.reverse_cons
      have c : (!(y :: vs).reverse.isEmpty) = true := by rw [el]; simp
      rw [c]
      have hp1 := h1.pos
      refine iteT ⟨fun σ' H' => ∃ m' < n + m, ∃ (vs : List V) (b' : Bool) (v2 : Option V), σ' = [some v, some (.ref W), v2] ∧ H' W = some (.lst vs.reverse) ∧ OVs H vs b' m' ∧ m' ≤ 1000000 ∧ (a && b) = b' ∧ Same H H', fun σ' H' q => q, ?_⟩
      refine ⟨_, rfl, .inl ⟨rfl, _, SqL.of hL⟩, W, _, y, rfl, rfl, hL, by rw [el]; simp, ?_⟩
      have ed : (y :: vs).reverse.dropLast = vs.reverse := by rw [el]; simp
      rw [ed]
      have hs' : Same H (upd H1 W (.lst vs.reverse)) := same_over hs hW
      cases h1 with
      | leaf hl =>
        refine ⟨y, rfl, y, false, rfl, .inl ⟨rfl, hl.same hs'⟩, _, rfl, iteF ⟨_, rfl, y, rfl, hl.same hs', fun H2 s2 => ⟨_, rfl, ?_⟩⟩⟩
        cases ww : isWordV y with
        | false =>
          rw [ww, Bool.false_and] at k
          exact iteT (k H2 (hs'.trans s2))
        | true => exact iteF ⟨m, by omega, vs, b, _, rfl, s2 _ _ upd_same, h2, by omega, by rw [Bool.true_and], hs'.trans s2⟩
      | @node p g x z ba bb na nb e hx hz' =>
        refine ⟨_, rfl, _, true, rfl, .inr ⟨rfl, p, g, x, z, rfl, hs' _ _ e⟩, _, rfl, iteT ⟨_, rfl, .inl ⟨rfl, _, SqL.of upd_same⟩, _, rfl, _, rfl, p, _, rfl, SqT.of (hs' _ _ e), cut_not, fun p' hp => ?_⟩⟩
        have np : W ≠ p' := ne_of_none upd_same hp
        have l1 := h2.len
        refine ⟨W, p', _, _, rfl, rfl, by rw [upd_ne np, upd_same], SqT.of upd_same, ?_, ?_⟩
        · show vs.reverse.length + 2 ≤ sizeLine
          rw [List.length_reverse, sizeLine_eq]
          omega
        · refine ⟨nb + (na + m), by omega, z :: x :: vs, _, _, rfl, ?_, .cons hz' (.cons hx h2), by omega, ?_, same_over (hs'.trans (same_upd hp)) hW⟩
          · rw [upd_same]
            simp
            rfl
          · rw [← Bool.and_assoc, Bool.and_comm bb ba]
end
end Q4

/-! Rules of our own: defs that are called where no repr is under way; errors as values; repr of data. -/
namespace K1
open PySem PySem.Spec PyProof.Rows L2
/-- what FnOk says, of calls made while no repr is under way -/
structure FnG (P : Program) (w : World) (K : PySem.W.Frag) (mg : Str → Option Value) (base : Heap) (k : Nat) (f : Addr) (fd : FuncData) (ps : List Str) (sp : Sp) : Prop where
  len : ∀ vs H Q E, sp vs H Q E → vs.length = ps.length
  run : ∀ (B : Around) (outer : List Env) (s : Shared) (H : Hp) (args : Args) (us : List Value) (vs : List V) (Q : VK), B.guards = some [] → Room k B → Env0 P w K mg base B outer s H →
    BindsTo s fd args (ps.zip us) → Vals vs us → sp vs H Q E0 → codeAny (model P w) B (.call (.ref f) args) (CR CX0 outer P w H s Q E0) s
theorem gn_of {P : Program} {w : World} {K : PySem.W.Frag} {mg : Str → Option Value} {base : Heap} {x qual : Str} {st : Stmt} {f : Addr} {fd : FuncData} {N ps : List Str} {k : Nat} {sp : Sp} (F : Fun K x qual st f fd)
    (S : FnScope N ps (defScope st)) (len : ∀ vs H Q E, sp vs H Q E → vs.length = ps.length)
    (body : ∀ (cdv : Value) (B : Around) (outer : List Env) (s : Shared) (H : Hp) (vs : List V) (Q : VK), B.guards = some [] → Room k (B.deeper (envOfC qual (defScope st) s.heap.objs.size f cdv)) → sp vs H Q E0 →
      ∃ t, PSs (cxOf CX0 P w K mg base N qual (defScope st) f cdv B outer s H E0).nox (defBody st) t ∧ t { nx := fun _ H' => Q .non H', rt := Q } (start N vs) H) :
    FnG P w K mg base (k + 1) f fd ps sp := by
  obtain ⟨oc, od, kV, doc, pm, an, cdv, ct, osl, rfl, lk, hcd⟩ := F.ex
  refine ⟨len, fun B outer s H args us vs Q hg hr e0 hb r hsp => ?_⟩
  have hl := len _ _ _ _ hsp
  have KX : K.In s.heap := e0.mod.kin.keeps fun b o e => (e0.bs b o e).1
  have lim : s.heap.NoLimit := e0.mod.nolimit.keeps fun b o e => (e0.bs b o e).1
  have kinds : ∀ y ∈ ps.zip us, (defScope st).names.lookup y.1 = some .local ∨ ((defScope st).names.lookup y.1 = some .cell ∧ ((cellsFrom (s.heap.objs.size + 1) (defScope st).names []).lookup y.1).isSome = true) := by
    rintro ⟨n, v⟩ hy
    exact (S.par n (List.of_mem_zip hy).1).imp id fun q => ⟨q, PySem.W.cellsFrom_some _ _ _ (.inl q)⟩
  refine codeAny_call_function hr.depth (KX _ _ lk) rfl S.co S.gen rfl (PySem.W.codeRec_of KX hcd) (hb _ _ _ _ ?_)
  refine wpAny_newFunctionEnv_cells S.kind kinds fun env he s1 z => ?_
  subst he
  refine ⟨lim.keeps z.toInCall.keep, codeAny_func ?_⟩
  obtain ⟨t, ht, hq⟩ := body cdv B outer s H vs Q hg (hr.deeper _) hsp
  have I := inv_start (CX := CX0) (E := E0) S hr.hd e0 hl r z
  refine wpAny_mono (ht.nox.run [] s1 (start N vs) H _ I hq) (fun fl s' hs => ?_) fun e s' hs => hs
  cases fl with
  | ret u =>
    obtain ⟨v, σ', H', J, rv, q⟩ := hs
    exact ⟨v, H', J.os, J.bare, J.base, J.hok, rv, q⟩
  | next =>
    obtain ⟨σ', H', J, q⟩ := hs
    exact ⟨V.non, H', J.os, J.bare, J.base, J.hok, rfl, q⟩
  | brk =>
    obtain ⟨_, _, _, q⟩ := hs
    exact False.elim q
  | cont =>
    obtain ⟨_, _, _, q⟩ := hs
    exact False.elim q
section
variable {X : Cx} {k : Nat} {f : Addr} {fd : FuncData} {ps : List Str} {sp : Sp} {x : Str} {p pos : Pos} {e : Expr} {es : List Expr} {t : TA}
theorem run_gn {pins : List (Addr × Obj)} {σ : L2.St} {H : Hp} {s : Shared} {Q : VK} {us : List Value} {vs : List V} (F : FnG X.prog X.w X.K X.mg X.base k f fd ps sp) (hG : X.A.guards = some []) (hr : Room k X.A) (hb : Binds X.K fd ps [])
    (I : Inv X pins σ H s) (r : Vals vs us) (h : sp vs H Q E0) : wpAny (model X.prog X.w) X.A (call (.ref f) us) (EP X pins σ Q) X.xe s := by
  have hl : (us ++ []).length = ps.length := by
    rw [List.append_nil, ← r.length]
    exact F.len _ _ _ _ h
  have hb' := hb s us I.kIn hl
  rw [List.append_nil] at hb'
  refine wpAny_call (codeAny_mono (F.run X.A X.stack s H ⟨us, []⟩ us vs Q hG hr I.env0 hb' r h) fun q s' hq => ?_)
  match q, hq with
  | .error _, hq => exact False.elim hq
  | .ok (.ret _), hq => exact I.after hq
  | .ok .next, hq => exact False.elim hq
  | .ok .brk, hq => exact False.elim hq
  | .ok .cont, hq => exact False.elim hq
theorem pe_gcall (F : FnG X.prog X.w X.K X.mg X.base k f fd ps sp) (hG : X.A.guards = some []) (hr : Room k X.A) (hg : Gl X x) (hm : X.mg x = some (.ref f)) (hk : PySem.W.keepIn X.K (.ref f) = true) (hb : Binds X.K fd ps [])
    (ha : PA X (e :: es) t) (hdb : (x == ("__debug__" : Str)) = false := by decide) (he : starEach (e :: es) X.env = (false, eval e X.env) :: starEach es X.env := by rfl) (hpl : (backTo pos (starEach es X.env)).any (·.1) = false := by rfl) :
    PE X (.Call (.Name x p) (e :: es) [] pos) (fun σ H Q => t σ H fun vs H1 => sp vs H1 Q E0) := by
  refine ⟨fun pins s σ H Q I h => wpAny_Call_Name_kw (ld_glob I hg hm ?_ hdb)⟩
  exact PySem.W.callWith_K (h₀ := X.base) I.ok.mod.kin hk (thn (ha.run pos pins s σ H _ I h) fun us s1 ⟨vs, H1, I1, r, q⟩ => ⟨I1.kIn, run_gn F hG hr hb I1 r q⟩) he hpl
end
end K1

namespace PySem
namespace HandSPX
open Builtin Builtin.ObjectAttr
section
variable {M : Model} {A : Around} {E : Value → Shared → Prop} {h : Heap} {g : Array GenState} {d : Drawn} {t : Nat} {os : OsState}
variable {nm q : Str} {C N : Addr} {bs bm bmB : List Value} {hdct : Bool} {sn : List Str} {sub : List Value} {ab : Bool} {col : Option Bool} {dd : Option Addr} {k0 k1 k2 k3 k5 : Option Value} {B newId initId : String} {kw : List (Str × Value)} {rest : List Value}
theorem kwCheckNew (F : ExcBaseFacts B newId initId bmB) (same : ∀ X : String, bm.contains (.type X) = bmB.contains (.type X)) {Q : Unit → Shared → Prop}
    (at_C : h.get? C = some (excClassObj nm q C N bs bm hdct sn sub ab col dd k0 k1 k2 k3 k5 newId)) (hq : Q () ⟨h, g, d, t, os⟩) : wpAny M A (checkBuiltinCall newId ⟨.ref C :: rest, kw⟩) Q E ⟨h, g, d, t, os⟩ := by
  have inB : (Value.ref C :: bm).contains (.type B) = true := by
    rw [List.contains_cons, same, F.hasB, Bool.or_true]
  have star := F.noStar
  simp only [checkBuiltinCall, F.newKind, F.newSplit, F.newRow]
  repeat (first | refine wpAny_loadPart_at at_C ?_ | (refine wpAny_isSubtype_exc at_C ?_; rw [inB]) | refine wpAny_staticBase_exc at_C ?_ | refine wpAny_madeBy_exc at_C ?_ | simp only [bne_self_eq_false, Bool.false_eq_true, if_false] | wp_step)
  all_goals exact hq
end
section
variable {prog : Program} {w : World} {A : Around} {E : Value → Shared → Prop} {R : Result → Shared → Prop} {h : Heap} {g : Array GenState} {d : Drawn} {t : Nat} {os : OsState}
variable {nm q : Str} {C N : Addr} {bs bm bmB : List Value} {hdct : Bool} {sn : List Str} {sub : List Value} {ab : Bool} {col : Option Bool} {dd : Option Addr} {k0 k1 k2 k3 k5 : Option Value} {B newId initId : String} {kw : List (Str × Value)} {rest : List Value}
theorem kwNew (F : ExcBaseFacts B newId initId bmB) (same : ∀ X : String, bm.contains (.type X) = bmB.contains (.type X))
    (at_C : h.get? C = some (excClassObj nm q C N bs bm hdct sn sub ab col dd k0 k1 k2 k3 k5 newId))
    (hq : R (.ok (.ret (.ref (h.objs.size + 1)))) ⟨(h.push (W.kdv_tup rest)).push (excO C h.objs.size), g, d, t, os⟩) (few : rest.length ≤ sizeLine) :
    codeAny (model prog w) A (.builtin newId ⟨.ref C :: rest, kw⟩) R ⟨h, g, d, t, os⟩ := by
  have ends := F.ends
  have inB : (Value.ref C :: bm).contains (.type B) = true := by
    rw [List.contains_cons, same, F.hasB, Bool.or_true]
  have inA : (Value.ref C :: bm).contains (.type "AttributeError") = false := by
    rw [List.contains_cons, same, F.noAttr]
    rfl
  have inN : (Value.ref C :: bm).contains (.type "NameError") = false := by
    rw [List.contains_cons, same, F.noName]
    rfl
  refine codeAny_builtinAt F.entry ?_
  unfold Builtin.«BaseException.__new__»
  refine wpAt_bind ?_
  show wpAt _ _ _ (stack >>= _) _ _ _
  refine wpAt_bind (wpAt_stack fun p below => wpAt_of_wpAny ?_)
  wp_walk
  refine wpAt_of_wpAny ?_
  rw [F.owner]
  repeat (first | with_reducible refine wpAny_madeHere_exc F.canon at_C ?_ | with_reducible refine wpAny_loadPart_at at_C ?_ | (with_reducible refine wpAny_isSubtype_exc at_C ?_; first | rw [inB] | rw [inA] | rw [inN]) | wp_step)
  show R _ _
  rw [Heap.size_push]
  exact hq
theorem kwTypeCall (F : ExcBaseFacts B newId initId bmB) (same : ∀ X : String, bm.contains (.type X) = bmB.contains (.type X)) {fI : Addr} {Q : Fin → Shared → Prop}
    (at_C : h.get? C = some (excClassObj nm q C N bs bm hdct sn sub ab col dd k0 k1 k2 k3 k5 newId))
    (hi : W.Looks (model prog w) h (typeLookup (.ref C) "__init__") (some (.ref fI))) (hb : ∀ self, W.Looks (model prog w) h (bindSpecial (.ref fI) self) (.ref fI, [self])) (few : rest.length ≤ sizeLine)
    (hq : codeAny (model prog w) A (.call (.ref fI) ⟨.ref (h.objs.size + 1) :: rest, kw⟩)
      (fun r s' => match r with | .ok (.ret v) => v = .none ∧ Q (.done (.ret (.ref (h.objs.size + 1)))) s' | .ok _ => False | .error e => E e s')
      ⟨(h.push (W.kdv_tup rest)).push (excO C h.objs.size), g, d, t, os⟩) :
    wpAny (model prog w) A (Builtin.«type.__call__» ⟨.ref C :: rest, kw⟩) Q E ⟨h, g, d, t, os⟩ := by
  repeat (first | with_reducible refine wpAny_loadPart_at at_C ?_ | with_reducible refine wpAny_madeBy_exc at_C ?_ | wp_step)
  refine codeAny_call_builtin_code (Code.quiet_builtin _ F.quiet) (kwCheckNew F same at_C ?_)
  refine kwNew F same at_C ?_ few
  show wpAny _ _ _ _ _ _
  have keep : ∀ b o, h.get? b = some o → ((h.push (W.kdv_tup rest)).push (excO C h.objs.size)).get? b = some o := fun b o e => Heap.get?_push_of_some _ (Heap.get?_push_of_some _ e)
  have at_C1 := keep _ _ at_C
  have at_e : ((h.push (W.kdv_tup rest)).push (excO C h.objs.size)).get? (h.objs.size + 1) = some (excO C h.objs.size) := by heap_get
  have inC : (Value.ref C :: bm).contains (.ref C) = true := by simp
  have i1 := hi.keeps keep
  have b1 := (hb (.ref (h.objs.size + 1))).keeps keep
  unfold isInstance
  repeat (first | with_reducible refine wpAny_loadPart_at at_e ?_ | (with_reducible refine wpAny_isSubtype_exc at_C1 ?_; rw [inC]) | wp_step)
  show wpAny _ _ (typeLookup (.ref C) _) _ _ _
  refine i1.at (wpAny_holding (wpAny_bind (b1.at ?_)))
  refine wpAny_bind (wpAny_call (codeAny_mono hq fun r s' z => ?_))
  match r, z with
  | .error e, z => exact z
  | .ok (.ret v), z =>
    obtain ⟨rfl, z⟩ := z
    first
      | exact wpAny_pure (wpAny_pure z)
      | (wp_walk; exact z)
  | .ok .next, z => exact z.elim
  | .ok .brk, z => exact z.elim
  | .ok .cont, z => exact z.elim
theorem kwCall (F : ExcBaseFacts B newId initId bmB) (same : ∀ X : String, bm.contains (.type X) = bmB.contains (.type X)) {fI : Addr}
    (at_C : h.get? C = some (excClassObj nm q C N bs bm hdct sn sub ab col dd k0 k1 k2 k3 k5 newId))
    (hi : W.Looks (model prog w) h (typeLookup (.ref C) "__init__") (some (.ref fI))) (hb : ∀ self, W.Looks (model prog w) h (bindSpecial (.ref fI) self) (.ref fI, [self])) (few : rest.length ≤ sizeLine)
    (hq : codeAny (model prog w) (A.under (.builtin "type.__call__" ⟨.ref C :: rest, kw⟩)) (.call (.ref fI) ⟨.ref (h.objs.size + 1) :: rest, kw⟩) (W.InitBack (h.objs.size + 1) R)
      ⟨(h.push (W.kdv_tup rest)).push (excO C h.objs.size), g, d, t, os⟩) :
    codeAny (model prog w) A (.call (.ref C) ⟨rest, kw⟩) R ⟨h, g, d, t, os⟩ := by
  have f1 := tc_lookup
  have f2 := tc_bind (.ref C)
  have isTy : (⟨h, g, d, t, os⟩ : Shared).TypeIs (.ref C) "type" := ⟨_, at_C, rfl⟩
  refine codeAny_of_tree ?_
  show wpAny _ _ (callAny (.ref C) _) _ _ _
  repeat (any_goals (first | assumption | with_reducible refine wpAny_loadPart_at at_C ?_ | wp_step))
  refine ⟨rfl, ?_⟩
  refine codeAny_call_builtin_at (Code.quiet_builtin _ (by decide +kernel)) entry_typeCall (wpAny_check_type_call_sub at_C (kwTypeCall F same at_C hi hb few ?_))
  refine codeAny_mono hq fun r s' z => ?_
  match r, z with
  | .error e, z => exact z
  | .ok (.ret v), z => exact z
  | .ok .next, z => exact z
  | .ok .brk, z => exact z
  | .ok .cont, z => exact z
end
end HandSPX
end PySem

namespace K1
open PySem PySem.Spec PyProof.Rows L2
open PySem.W (Frag)
/-! ### the text of __init__ -/
def eA (p1 p2 p3 : Pos) : Arguments := { posonlyargs := [], args := [{ arg := "self", annotation := none, pos := p1 }, { arg := "value", annotation := none, pos := p2 }], vararg := none, kwonlyargs := [], kw_defaults := [], kwarg := none, defaults := [.Constant .none 0 p3] }
def eB (q1 q2 q3 q4 : Pos) : List Stmt := [.Assign [.Attribute (.Name "self" q1) "value" q2] (.Name "value" q3) q4]
def eS : Scope := { kind := .function, names := [(PySem.Str.ofString "self", .local), (PySem.Str.ofString "value", .local)], isGenerator := false, isCoroutine := false, more := [] }
/-- what the written part says of an error's class at C, and of its __init__ at fI -/
structure ErrC (K : Frag) (mg : Str → Option Value) (x : Str) (C fI : Addr) : Prop where
  gC : mg x = some (.ref C)
  ox : OexC K C
  ga : PySem.W.findIn K (.ref C) "__getattribute__" = some (some (.builtin "BaseException.__getattribute__"))
  gg : PySem.W.findIn K (.ref C) "__getattr__" = some none
  hd : PySem.W.hasDictIn K C = true
  noN : PySem.W.findIn K (.ref C) "value" = some none
  iC : PySem.W.findIn K (.ref C) "__init__" = some (some (.ref fI))
  tI : PySem.W.typeIn K (.ref fI) = some (.type "function")
  fn : ∃ (oc : Value) (od : Option Addr) (kV doc pm : Value) (an : Option Addr) (cdv ct : Value) (osl : Array (Option Value)) (p1 p2 p3 q1 q2 q3 q4 : Pos) (q : Str) (T : Addr) (o : Obj) (n : Nat),
    K.lookup fI = some ⟨oc, od, .func (PySem.W.fnOf "__init__" q (eA p1 p2 p3) (eB q1 q2 q3 q4) eS (.ref T) kV doc pm an cdv ct), osl⟩ ∧ PySem.W.codeIn K cdv q = true ∧ K.lookup T = some o ∧ o.data = .seq #[.none] n
/-- how the one value may be handed: by place, by name, not at all -/
inductive Hand : List Value → List (Str × Value) → Value → Prop where
  | place (u : Value) : Hand [u] [] u
  | name (u : Value) : Hand [] [("value", u)] u
  | not : Hand [] [] .none
theorem hand_few {us : List Value} {kw : List (Str × Value)} {u : Value} (h : Hand us kw u) : us.length ≤ sizeLine := by
  have e : us.length ≤ 1 := by cases h <;> simp
  rw [sizeLine_eq]
  omega
theorem hand_binds {K : Frag} {s : Shared} {T e : Addr} {o : Obj} {n : Nat} {kV doc pm cdv ct u : Value} {an : Option Addr} {p1 p2 p3 q1 q2 q3 q4 : Pos} {q : Str} {us : List Value} {kw : List (Str × Value)} (X : K.In s.heap) (lT : K.lookup T = some o) (oT : o.data = .seq #[.none] n)
    (h : Hand us kw u) : BindsTo s (PySem.W.fnOf "__init__" q (eA p1 p2 p3) (eB q1 q2 q3 q4) eS (.ref T) kV doc pm an cdv ct) ⟨.ref e :: us, kw⟩ [("self", .ref e), ("value", u)] := by
  refine BindsTo.of_looks fun M => ?_
  cases h with
  | place u => exact looks_items X lT oT (.of_pure rfl)
  | name u => exact looks_items X lT oT (.of_pure rfl)
  | not => exact looks_items X lT oT (.of_pure rfl)
/-- what __init__ leaves: the exception at x has its own dict at dx, the value stands in it -/
structure Inited (h h' : Heap) (x C dx t1 : Addr) (v : Value) : Prop where
  keep : ∀ b o, b ≠ x → h.get? b = some o → h'.get? b = some o
  obj : h'.get? x = some { cls := .ref C, dict := some dx, data := .fields #[.ref t1, .none, .none, .none, .bool false, .none] }
  dbig : h.objs.size ≤ dx
  dne : dx ≠ x
  ns : h'.Ns1 dx (fun y => if y = "value" then some v else none)
section
variable {prog : Program} {w : World} {A : Around} {R : Result → Shared → Prop} {s : Shared} {K : Frag} {mg : Str → Option Value} {nm : Str} {C fI : Addr}
theorem local_at {M : Model} {s : Shared} {name : Str} {scope : Scope} {L a : Addr} {cd : Value} {m : Str → Option Value} {x : Str} {pos : Pos} {v : Value} {Q E : Value → Shared → Prop} {B : Around} (hn : s.heap.Ns L m) (hv : m x = some v) (h : Q v s)
    (hk : scope.kind = .function := by rfl) (hl : (envOfC name scope L a cd).kindOf x = some .local := by rfl) (hd : (x == ("__debug__" : Str)) = false := by decide) :
    wpAny M B (eval (.Name x pos) (envOfC name scope L a cd)) Q E s := wpAny_Name (wpAny_loadName_local hk hl hn hv h) hd
theorem err_init (T : ErrC K mg nm C fI) {x t0 : Addr} {us : List Value} {kw : List (Str × Value)} {v : Value} (hh : Hand us kw v) (X : K.In s.heap) (lim : s.heap.NoLimit) (hx : s.heap.get? x = some (PySem.HandSPX.excO C t0)) (room : A.depth < recursionLimit)
    (hq : ∀ h' tk dx, Inited s.heap h' x C dx t0 v → R (.ok (.ret .none)) { s with heap := h', toks := tk }) :
    codeAny (model prog w) A (.call (.ref fI) ⟨.ref x :: us, kw⟩) R s := by
  obtain ⟨oc, od, kV, doc, pm, an, cdv, ct, osl, p1, p2, p3, q1, q2, q3, q4, q, D, oD, nD, ho, hcd, lD, dD⟩ := T.fn
  obtain ⟨n2, qn, N, bs, bm, sn, sub, ab, col, dd, k0, k1, k2, k3, k5, hC, hbm⟩ := T.ox.cls
  have hcl : PySem.W.clsIn K C = some { name := n2, bases := bs, mro := .ref C :: bm, ns := N, qualname := qn, hasDict := true, slotNames := sn, subclasses := sub, abstract := ab, collection := col, hasDel := false } := by
    unfold PySem.W.clsIn
    rw [hC] <;> rfl
  refine Att.call_fn (binds := [("self", .ref x), ("value", v)]) X lim ho hcd room (hand_binds X lD dD hh) (by first | rfl | decide | with_unfolding_all rfl) (fun s1 IC => ?_) rfl rfl rfl
  obtain ⟨h1, tk1, rfl⟩ := IC.toInCall.same
  have keep : ∀ b o, s.heap.get? b = some o → h1.get? b = some o := IC.toInCall.keep
  have hn := IC.toInCall.ns
  have X1 : K.In h1 := X.keeps keep
  have hx1 := keep _ _ hx
  show wpAny _ _ (execs _ _) _ _ _
  refine wpAny_execs_cons (plainObj_wpAny_Assign_Attribute ?_)
  refine local_at (v := v) hn (by first | rfl | with_unfolding_all rfl | kernel_rfl) (local_at (v := .ref x) hn (by first | rfl | with_unfolding_all rfl | kernel_rfl) ?_)
  refine PySem.W.set_plain X1 (ox := PySem.HandSPX.excO C t0) (od := none) ⟨hx1, rfl, rfl, trivial⟩ T.ox.sa ?_
  refine PySem.HandSPX.exc_osa X1 hx1 hcl (show PySem.HandSPX.refsVE (.ref C :: bm) = true from hbm) rfl T.noN (fun h3 tk3 dx k3 dn dne hx3 hn3 => ?_)
  show wpAny _ _ (execs _ _) _ _ _
  have z : s.heap.objs.size < h1.objs.size := hn.lt
  exact wpAny_execs_nil (hq h3 tk3 dx ⟨fun b o hb e => k3 b o hb (keep b o e), hx3, Nat.le_of_lt (Nat.lt_of_lt_of_le z dn), dne, hn3⟩)
/-- a made error: at e, its dict at d -/
structure Made (h h' : Heap) (e C d : Addr) (v : Value) : Prop where
  keep : ∀ b o, h.get? b = some o → h'.get? b = some o
  new : h.objs.size ≤ e
  obj : ∃ t1 : Addr, h'.get? e = some { cls := .ref C, dict := some d, data := .fields #[.ref t1, .none, .none, .none, .bool false, .none] }
  dbig : h.objs.size ≤ d
  dne : d ≠ e
  ns : h'.Ns1 d (fun y => if y = "value" then some v else none)
theorem err_made (T : ErrC K mg nm C fI) {us : List Value} {kw : List (Str × Value)} {v : Value} (hh : Hand us kw v) (X : K.In s.heap) (lim : s.heap.NoLimit) (room : A.depth + 1 < recursionLimit)
    (hq : ∀ h' tk e d, Made s.heap h' e C d v → R (.ok (.ret (.ref e))) { s with heap := h', toks := tk }) :
    codeAny (model prog w) A (.call (.ref C) ⟨us, kw⟩) R s := by
  obtain ⟨n2, qn, N, bs, bm, sn, sub, ab, col, dd, k0, k1, k2, k3, k5, hC, hbm⟩ := T.ox.cls
  obtain ⟨hp, g, dr, tk, os⟩ := s
  have keep : ∀ b o, hp.get? b = some o → ((hp.push (PySem.W.kdv_tup us)).push (PySem.HandSPX.excO C hp.objs.size)).get? b = some o := fun b o e => Heap.get?_push_of_some _ (Heap.get?_push_of_some _ e)
  have at_e : ((hp.push (PySem.W.kdv_tup us)).push (PySem.HandSPX.excO C hp.objs.size)).get? (hp.objs.size + 1) = some (PySem.HandSPX.excO C hp.objs.size) := by heap_get
  refine PySem.HandSPX.kwCall F.excBase_ValueError (fun Y => PySem.HandSPX.refsVE_contains Y bm hbm) (X _ _ hC) (PySem.W.looks_findIn X T.iC) (fun self => PySem.W.bind_fn X self T.tI) (hand_few hh) ?_
  refine err_init (s := ⟨(hp.push (PySem.W.kdv_tup us)).push (PySem.HandSPX.excO C hp.objs.size), g, dr, tk, os⟩) T hh (X.keeps keep) (lim.keeps keep) at_e room fun h' tk' dx M => ?_
  have old : ∀ b o, hp.get? b = some o → h'.get? b = some o := fun b o e => M.keep b o (Nat.ne_of_lt (Nat.lt_succ_of_lt (Heap.lt_size e))) (keep b o e)
  have z : hp.objs.size + 1 + 1 ≤ dx := by
    have q := M.dbig
    simp only [Heap.size_push] at q
    exact q
  exact ⟨rfl, hq h' tk' (hp.objs.size + 1) dx ⟨old, Nat.le_succ _, ⟨_, M.obj⟩, Nat.le_trans (Nat.le_trans (Nat.le_succ _) (Nat.le_succ _)) z, M.dne, M.ns⟩⟩
end
/-! ### errors as values, over the abstract heap -/
/-- at e an error of the class at C whose value is v -/
def ErrAt (H : Hp) (C e : Addr) (v : V) : Prop := ∃ d, H e = some (exo e C (some d)) ∧ H d = some (exd d [(("value" : Str), v)])
theorem ErrAt.same {H H' : Hp} {C e : Addr} {v : V} (k : Same H H') (h : ErrAt H C e v) : ErrAt H' C e v := by
  obtain ⟨d, h1, h2⟩ := h
  exact ⟨d, k _ _ h1, k _ _ h2⟩
section
variable {X : Cx} {pins : List (Addr × Obj)} {σ : L2.St} {H : Hp} {s : Shared} {nm : Str} {C fI : Addr}
theorem one_rel {v : V} {u : Value} (r : RelV v u) (f : Str) : RelO (List.lookup f [(("value" : Str), v)]) (if f = "value" then some u else none) := by
  rw [lookup_put]
  by_cases h : f = "value"
  · rw [if_pos h, if_pos h]
    exact r
  · rw [if_neg h, if_neg h]
    trivial
theorem track_err {h' : Heap} {tk : Nat} {e d : Addr} {v : V} {u : Value} (I : Inv X pins σ H s) (M : Made s.heap h' e C d u) (r : RelV v u) :
    Inv X pins σ (upd (upd H d (exd d [(("value" : Str), v)])) e (exo e C (some d))) { s with heap := h', toks := tk } := by
  obtain ⟨t1, obj⟩ := M.obj
  have he : H e = none := I.hok.fresh M.new
  have hd : H d = none := I.hok.fresh M.dbig
  have ne : ∀ {b : Addr} {o : Obj}, s.heap.get? b = some o → b ≠ e ∧ b ≠ d := fun {b o} q => ⟨Nat.ne_of_lt (Nat.lt_of_lt_of_le (Heap.lt_size q) M.new), Nat.ne_of_lt (Nat.lt_of_lt_of_le (Heap.lt_size q) M.dbig)⟩
  have old : ∀ {b : Addr} {o : HO}, H b = some o → (upd (upd H d (exd d [(("value" : Str), v)])) e (exo e C (some d))) b = some o := fun {b o} q => by
    rw [upd_ne (ne_of_none q he), upd_ne (ne_of_none q hd)]
    exact q
  have U : Un X.fs [] H (upd (upd H d (exd d [(("value" : Str), v)])) e (exo e C (some d))) s.heap h' := {
    keep := fun b o q _ _ _ => M.keep b o q
    slot := fun b o q _ _ _ => ⟨o.slots, M.keep b o q⟩
    free := fun b o q n _ => by
      rw [upd_ne (ne q).1, upd_ne (ne q).2]
      exact n
    there := fun b o q _ => ⟨o, M.keep b o q⟩
    tups := fun b xs q => old q
    frzs := fun b o u q => old q
    tbls := fun b ps q => ⟨#[], by rw [old q]; simp⟩ }
  refine I.un (t' := tk) U fun b o q => ?_
  by_cases hb : b = e
  · subst hb
    rw [upd_same] at q
    injection q with q
    rw [← q]
    exact exo_ok obj
  · rw [upd_ne hb] at q
    by_cases hbd : b = d
    · subst hbd
      rw [upd_same] at q
      injection q with q
      rw [← q]
      exact exd_ok M.ns (one_rel r)
    · rw [upd_ne hbd] at q
      exact (I.hok b o q).stay (fun c v _ z => M.keep c v z) (fun c z => old z) fun c xs z => old z
/-- what is wanted of the making of an error with the value v -/
def Makes (C : Addr) (v : V) (H : Hp) (Q : VK) : Prop := ∀ H' e, Same H H' → H e = none → ErrAt H' C e v → Q (.ref e) H'
theorem run_err (T : ErrC X.K X.mg nm C fI) (hr : Room 1 X.A) {us : List Value} {kw : List (Str × Value)} {v : V} {u : Value} {Q : VK} (hh : Hand us kw u) (r : RelV v u) (I : Inv X pins σ H s) (h : Makes C v H Q) :
    wpAny (model X.prog X.w) X.A (call (.ref C) us kw) (EP X pins σ Q) X.xe s := by
  refine wpAny_call (err_made T hh I.kIn I.nolimit (by have := hr.dp; omega) fun h' tk e d M => ?_)
  have J := track_err (tk := tk) I M r
  have he : H e = none := I.hok.fresh M.new
  have hd : H d = none := I.hok.fresh M.dbig
  refine ⟨.ref e, _, J, rfl, h _ e (fun b o q => ?_) he ⟨d, upd_same, ?_⟩⟩
  · rw [upd_ne (ne_of_none q he), upd_ne (ne_of_none q hd)]
    exact q
  · rw [upd_ne M.dne, upd_same]
variable {p pos kpos : Pos} {a : Expr} {ta : TE}
/-- C(e) -/
theorem pe_err1 (T : ErrC X.K X.mg nm C fI) (hr : Room 1 X.A) (ha : PE X a ta) (hg : Gl X nm := by rfl) (hdb : (nm == ("__debug__" : Str)) = false := by decide)
    (he : starEach (a :: []) X.env = (false, eval a X.env) :: starEach [] X.env := by rfl) : PE X (.Call (.Name nm p) [a] [] pos) (fun σ H Q => ta σ H fun v H1 => Makes C v H1 Q) := by
  refine ⟨fun pins s σ H Q I h => wpAny_Call_Name_kw (ld_glob I hg T.gC ?_ hdb)⟩
  refine PySem.W.callWith_K (h₀ := X.base) I.ok.mod.kin T.ox.kC ?_ he (by rfl)
  have P := pa_cons ha pa_nil he
  refine thn (P.run pos pins s σ H (fun vs H1 => match vs with | [v] => Makes C v H1 Q | _ => False) I h) fun us s1 hh => ?_
  obtain ⟨vs, H1, I1, r1, q1⟩ := hh
  match vs, us, r1, q1 with
  | [v], _, .cons rv .nil, q1 => exact ⟨I1.kIn, run_err T hr (.place _) rv I1 q1⟩
/-- C(value=e) -/
theorem pe_errK (T : ErrC X.K X.mg nm C fI) (hr : Room 1 X.A) (ha : PE X a ta) (hg : Gl X nm := by rfl) (hdb : (nm == ("__debug__" : Str)) = false := by decide)
    (hall : (backToKw pos (keywordEach [⟨some "value", a, kpos⟩] X.env)).all (·.1.isSome) = true := by rfl) (hks : (backToKw pos (keywordEach [⟨some "value", a, kpos⟩] X.env)).filterMap (·.1) = [("value" : Str)] := by rfl)
    (hpl : ((backTo pos (starEach [] X.env)).any (·.1) || (backToKw pos (keywordEach [⟨some "value", a, kpos⟩] X.env)).any (·.1.isNone)) = false := by rfl) :
    PE X (.Call (.Name nm p) [] [⟨some "value", a, kpos⟩] pos) (fun σ H Q => ta σ H fun v H1 => Makes C v H1 Q) := by
  refine ⟨fun pins s σ H Q I h => wpAny_Call_Name_kw (ld_glob I hg T.gC ?_ hdb)⟩
  refine PySem.W.callWith_KW0 (h₀ := X.base) I.ok.mod.kin T.ox.kC hall ?_ hpl
  have P := pk_cons (nm := some "value") (kpos := kpos) ha pk_nil
  refine thn (P.run pos pins s σ H (fun vs H1 => match vs with | [v] => Makes C v H1 Q | _ => False) I h) fun us s1 hh => ?_
  obtain ⟨vs, H1, I1, r1, q1⟩ := hh
  rw [hks]
  match vs, us, r1, q1 with
  | [v], _, .cons rv .nil, q1 => exact ⟨I1.kIn, run_err T hr (.name _) rv I1 q1⟩
/-- C() -/
theorem pe_err0 (T : ErrC X.K X.mg nm C fI) (hr : Room 1 X.A) (hg : Gl X nm := by rfl) (hdb : (nm == ("__debug__" : Str)) = false := by decide) :
    PE X (.Call (.Name nm p) [] [] pos) (fun σ H Q => Makes C .non H Q) := by
  refine ⟨fun pins s σ H Q I h => wpAny_Call_Name_kw (ld_glob I hg T.gC ?_ hdb)⟩
  exact PySem.W.callWith_K0 I.kIn T.ox.kC (run_err (v := .non) T hr .not (show RelV .non Value.none from rfl) I h)
/-- e.value of an error -/
def tVal (K : Frag) (ta : TE) : TE := fun σ H Q => ta σ H fun x H1 => ∃ (C e : Addr) (v : V), x = .ref e ∧ ErrAt H1 C e v ∧ XfC K C ∧ PySem.W.findIn K (.ref C) "value" = some none ∧ Q v H1
theorem pe_val (ha : PE X a ta) (hb : attributeBase a "value" X.env (eval a X.env) = eval a X.env := by rfl) : PE X (.Attribute a "value" pos) (tVal X.K ta) := by
  refine ⟨fun pins s σ H Q I h => attr_of hb (thn (ha.run pins s σ H _ I h) fun u s1 hh => ?_)⟩
  obtain ⟨x, H1, I1, rx, C, e, v, rfl, ⟨d, e1, e2⟩, T, hno, q⟩ := hh
  obtain rfl : u = Value.ref e := rx
  obtain ⟨t1, ho⟩ := exo_at I1.hok e1
  obtain ⟨mA, hns, rel⟩ := exd_at I1.hok e2
  obtain ⟨od, hod, look⟩ := lookIn_ns hns
  have l : List.lookup ("value" : Str) [(("value" : Str), v)] = some v := by rw [lookup_put, if_pos rfl]
  obtain ⟨u, hu, ru⟩ := RelO.some_of (v := v) (o := mA "value") (by rw [← l]; exact rel "value")
  have J : PySem.W.InstAt s1.heap e { cls := .ref C, dict := some d, data := .fields #[.ref t1, .none, .none, .none, .bool false, .none] } C (some od) := ⟨ho, rfl, rfl, hod⟩
  exact PySem.HandSPX.exc_get I1.kIn J T.ga T.gg T.exC (PySem.W.findObj_own T.hdC hno rfl (by rw [look, hu])) (handed_of ru) ⟨v, H1, I1.tok _, ru, q⟩
end
end K1

namespace K1
open PySem PySem.Spec PyProof.Rows L2
open PySem.W (Frag)
/-- at e an error of the class at C, with fields of its own or without -/
def IsErr (H : Hp) (C e : Addr) : Prop := (∃ d fs, H e = some (exo e C (some d)) ∧ H d = some (exd d fs)) ∨ H e = some (ExO (.ref C) e)
theorem ErrAt.is {H : Hp} {C e : Addr} {v : V} (h : ErrAt H C e v) : IsErr H C e := by
  obtain ⟨d, h1, h2⟩ := h
  exact .inl ⟨d, _, h1, h2⟩
theorem IsErr.same {H H' : Hp} {C e : Addr} (k : Same H H') (h : IsErr H C e) : IsErr H' C e := by
  rcases h with ⟨d, fs, h1, h2⟩ | h
  · exact .inl ⟨d, fs, k _ _ h1, k _ _ h2⟩
  · exact .inr (k _ _ h)
theorem is_clsIn {K : Frag} {C : Addr} (h : PySem.W.hasDictIn K C = true) : (PySem.W.clsIn K C).isSome = true := by
  obtain ⟨cd, hc, _⟩ := PySem.W.any_some h
  rw [hc]
  rfl
section
variable {X : Cx} {C : Addr} {nm : Str} {p pos : Pos}
theorem call_isErr : CallR X (.builtin "isinstance") (fun xs H Q => ∃ (e C : Addr) (c : V) (cv : Value) (b : Bool), xs = [.ref e, c] ∧ IsErr H C e ∧ ExcC X.K C ∧ ClsV c cv ∧ PySem.W.kitOne X.K (.ref C) cv = some b ∧ Q (.bl b) H) := by
  intro pins s σ H xs us Q I r h
  obtain ⟨e, C, c, cv, b, rfl, he, T, hc, hk, q⟩ := h
  match us, r with
  | _, .cons rx (.cons rt .nil) =>
    cases rx
    have ec := hc.eq rt
    subst ec
    have fin : ∀ tk : Nat, EP X pins σ Q (.bool b) { s with toks := tk } := fun tk => ⟨.bl b, H, I.kept (t' := tk) fun _ _ z => z, rfl, q⟩
    rcases he with ⟨d, fs, h1, h2⟩ | h1
    · obtain ⟨t1, ho⟩ := exo_at I.hok h1
      obtain ⟨mA, hns, _⟩ := exd_at I.hok h2
      obtain ⟨od, hod, _⟩ := lookIn_ns hns
      have J : PySem.W.InstAt s.heap e { cls := .ref C, dict := some d, data := .fields #[.ref t1, .none, .none, .none, .bool false, .none] } C (some od) := ⟨ho, rfl, rfl, hod⟩
      exact PySem.W.kia_one (PySem.W.kitx_exc (is_clsIn T.hd) T.hg T.hk T.hs T.ha T.hn T.ht T.hm) I.kIn J hk (fun z => nomatch z) fun tk => fin tk
    · obtain ⟨⟨oe, vs, ho, hz, hv, _⟩, _, _⟩ := (show ObjOk X.prog X.w H s.heap e (ExO (.ref C) e) from I.hok e _ h1)
      have J : PySem.W.InstAt s.heap e oe C none := by
        obtain ⟨oc, od, oda, osl⟩ := oe
        obtain ⟨z1, z2⟩ := hz
        dsimp only at z1 z2 hv
        subst z1 z2 hv
        exact ⟨ho, rfl, rfl, trivial⟩
      exact PySem.W.kia_one (PySem.W.kitx_exc (is_clsIn T.hd) T.hg T.hk T.hs T.ha T.hn T.ht T.hm) I.kIn J hk (fun z => nomatch z) fun tk => fin tk
/-- C() of an own class of errors without own __init__ -/
theorem pe_bare {bmB : List Value} {B newId initId : String} (F : ExcBaseFacts B newId initId bmB) (q : PySem.W.excIn X.K C bmB newId = true) (gC : X.mg nm = some (.ref C)) (kC : PySem.W.keepIn X.K (.ref C) = true) (hg : Gl X nm := by rfl)
    (hdb : (nm == ("__debug__" : Str)) = false := by decide) : PE X (.Call (.Name nm p) [] [] pos) (fun σ H Q => ∀ a, H a = none → Q (.ref a) (upd H a (ExO (.ref C) a))) := by
  refine ⟨fun pins s σ H Q I h => wpAny_Call_Name_kw (ld_glob I hg gC ?_ hdb)⟩
  refine PySem.W.callWith_K0 I.kIn kC ?_
  show wpAny _ _ (call (.ref C) []) _ _ _
  obtain ⟨bm, N, nm', qn, bs, hdct, sn, sub, ab, col, dd, k0, k1, k2, k3, k5, mN, hC, hN, hni, T⟩ := exc_obj I.kIn q
  refine wpAny_call_exc_subT F T hC hN hni (fun h' a hm => ?_) (by show 0 ≤ sizeLine; exact Nat.zero_le _)
  have hn : H a = none := I.hok.gone hm.new
  obtain ⟨t, ht, _, _⟩ := hm.there
  exact ⟨.ref a, upd H a (ExO (.ref C) a), I.laidN hm.keeps hm.new hn (exO_ok ht ⟨rfl, rfl⟩ rfl rfl rfl (show 4 < 6 by decide)), rfl, h a hn⟩
/-- i ** j of great numbers -/
theorem op_powB : OpR X (binaryOp .Pow) (rI (fun i j => 0 ≤ j ∧ (Builtin.Int.intBits i : Int) * j ≤ 2 ^ 27) fun i j => .int (i ^ j.toNat)) :=
  opI fun i j t u s Q E c q => PyProof.Rows.pow_int c.1 c.2 q
end
end K1

namespace XN
open PySem PySem.Spec PyProof.Rows L2
open PySem.W (Frag)
/-! ### errors that are raised, caught and kept -/
/-- an error of a class, its own dict -/
def exk (a : Addr) (cls : Value) (d : Option Addr) : HO := .ext fun h => ∃ (oe : Obj) (vs : Array Value), h.get? a = some oe ∧ L2N.Zn cls d oe ∧ oe.data = .fields vs
theorem exk_ok {P : Program} {w : World} {H : Hp} {h : Heap} {a : Addr} {cls : Value} {d : Option Addr} {oe : Obj} {vs : Array Value} (e : h.get? a = some oe) (z : L2N.Zn cls d oe) (q : oe.data = .fields vs) : ObjOk P w H h a (exk a cls d) :=
  ⟨⟨oe, vs, e, z, q⟩, ⟨oe, e⟩, fun _ _ ⟨o', v', q', r'⟩ k => ⟨o', v', k o' q', r'⟩⟩
/-- the value of an error -/
def vdict (v : V) : HO := .xd [(("value" : Str), v)]
/-- at e an error of the class at C whose value is v -/
def KErr (H : Hp) (C e : Addr) (v : V) : Prop := ∃ d, H e = some (exk e (.ref C) (some d)) ∧ H d = some (vdict v)
theorem KErr.same {H H' : Hp} {C e : Addr} {v : V} (h : KErr H C e v) (k : Same H H') : KErr H' C e v := by
  obtain ⟨d, h1, h2⟩ := h
  exact ⟨d, k _ _ h1, k _ _ h2⟩
section
variable {X : Cx} {pins : List (Addr × Obj)} {σ : L2.St} {H : Hp} {s : Shared} {nm : Str} {C fI : Addr} {p pos : Pos} {a : Expr} {ta : TE}
/-- C(e), to be raised -/
theorem pmk_err (T : K1.ErrC X.K X.mg nm C fI) (rs : Raises X (.ref C)) (hr : Room 1 X.A) (ha : PE X a ta) (hg : Gl X nm := by rfl) (hdb : (nm == ("__debug__" : Str)) = false := by decide)
    (he : starEach (a :: []) X.env = (false, eval a X.env) :: starEach [] X.env := by rfl) : L2N.PMk X (.Call (.Name nm p) [a] [] pos) (fun σ H Q => ta σ H fun v H1 => ∀ d, H1 d = none → Q (.ref C) (some d) (upd H1 d (vdict v))) := by
  intro pins s σ H Q I h
  refine wpAny_Call_Name_kw (ld_glob I hg T.gC ?_ hdb)
  refine PySem.W.callWith_K (h₀ := X.base) I.ok.mod.kin T.ox.kC ?_ he (by rfl)
  have P := pa_cons ha pa_nil he
  refine thn (P.run pos pins s σ H (fun vs H1 => match vs with | [v] => ∀ d, H1 d = none → Q (.ref C) (some d) (upd H1 d (vdict v)) | _ => False) I h) fun us s1 hh => ?_
  obtain ⟨vs, H1, I1, r1, q1⟩ := hh
  match vs, us, r1, q1 with
  | [v], [u], .cons rv .nil, q1 =>
    refine ⟨I1.kIn, ?_⟩
    have lim := I1.nolimit
    obtain ⟨hp, g, dr, tk, os⟩ := s1
    refine wpAny_call (K1.err_made T (.place _) I1.kIn lim (by have := hr.dp; omega) fun h' tk' e d M => ?_)
    obtain ⟨t1, obj⟩ := M.obj
    have dns := M.ns
    obtain ⟨G, G1, G2⟩ := restrict h' fun b => decide (b ≠ e)
    have same : ∀ b, b ≠ e → G.get? b = h'.get? b := fun b hb => G1 b (decide_eq_true hb)
    have none_e : G.get? e = none := G2 e (by simp)
    have was : ∀ b o, hp.get? b = some o → G.get? b = some o := fun b o z => (same b (Nat.ne_of_lt (Nat.lt_of_lt_of_le (Heap.lt_size z) M.new))).trans (M.keep b o z)
    have it : ObjOk X.prog X.w (upd H1 d (vdict v)) G d (vdict v) := ⟨_, dns.at (fun o z => (same d M.dne).trans z), K1.one_rel rv⟩
    have J : Inv X pins σ (upd H1 d (vdict v)) ⟨G, g, dr, tk', os⟩ := I1.laid (t' := tk') was M.dbig it
    refine ⟨e, _, _, ⟨G, g, dr, tk', os⟩, _, .ref C, some d, rfl, J, fun b o z => ?_, none_e, obj, ⟨rfl, rfl, fun vs e => by cases e; rfl⟩, rfl, rfl, ?_, rfl, I1.bare, rs, q1 d (I1.hok.fresh M.dbig)⟩
    · by_cases hb : b = e
      · rw [hb] at z
        have z' : G.get? e = some o := z
        rw [none_e] at z'
        cases z'
      · exact (same b hb).symm.trans z
    · rw [upd_ne M.dne.symm]
      exact I1.hok.fresh M.new
/-- raise C(e) -/
theorem ps_raiseE {W : WX} {pos2 : Pos} (hc : X.calm = true) (T : K1.ErrC X.K X.mg nm C fI) (rs : Raises X (.ref C)) (hr : Room 1 X.A) (tk : L2N.Takes X W) (ha : PE X a ta) (hg : Gl X nm := by rfl) (hdb : (nm == ("__debug__" : Str)) = false := by decide)
    (he : starEach (a :: []) X.env = (false, eval a X.env) :: starEach [] X.env := by rfl) : PS X (.Raise (some (.Call (.Name nm p) [a] [] pos)) none pos2) (fun _ σ H => ta σ H fun v H1 => ∀ d, H1 d = none → W (.ref C) (some d) σ (upd H1 d (vdict v))) :=
  L2N.ps_raise hc tk (pmk_err T rs hr ha hg hdb he)
/-- e.value of a kept error -/
theorem pe_valK (ha : PE X a ta) (hb : attributeBase a "value" X.env (eval a X.env) = eval a X.env := by rfl) : PE X (.Attribute a "value" pos) (fun σ H Q => ta σ H fun x H1 => ∃ (C e : Addr) (v : V), x = .ref e ∧ KErr H1 C e v ∧ XfC X.K C ∧ PySem.W.findIn X.K (.ref C) "value" = some none ∧ Q v H1) := by
  refine ⟨fun pins s σ H Q I h => attr_of hb (thn (ha.run pins s σ H _ I h) fun u s1 hh => ?_)⟩
  obtain ⟨x, H1, I1, rx, C, e, v, rfl, ⟨d, e1, e2⟩, T, hno, q⟩ := hh
  obtain rfl : u = Value.ref e := rx
  obtain ⟨⟨oe, vs, ho, hz, hdt⟩, _, _⟩ := (show ObjOk X.prog X.w H1 s1.heap e (exk e (.ref C) (some d)) from I1.hok e _ e1)
  obtain ⟨mA, dns, rel⟩ := (show ObjOk X.prog X.w H1 s1.heap d (vdict v) from I1.hok d _ e2)
  obtain ⟨od, hod, look⟩ := lookIn_ns dns
  have l : List.lookup ("value" : Str) [(("value" : Str), v)] = some v := by rw [lookup_put, if_pos rfl]
  obtain ⟨u, hu, ru⟩ := RelO.some_of (v := v) (o := mA "value") (by rw [← l]; exact rel "value")
  have J : PySem.W.InstAt s1.heap e oe C (some od) := ⟨ho, hz.1, by unfold PySem.W.notCls; rw [hdt] <;> rfl, by rw [hz.2.1]; exact hod⟩
  exact PySem.HandSPX.exc_get I1.kIn J T.ga T.gg T.exC (PySem.W.findObj_own T.hdC hno rfl (by rw [look, hu])) (handed_of ru) ⟨v, H1, I1.tok _, ru, q⟩
/-- isinstance(e, c) of a kept error -/
theorem call_isK : CallR X (.builtin "isinstance") (fun xs H Q => ∃ (e C : Addr) (v c : V) (cv : Value) (b : Bool), xs = [.ref e, c] ∧ KErr H C e v ∧ ExcC X.K C ∧ ClsV c cv ∧ PySem.W.kitOne X.K (.ref C) cv = some b ∧ Q (.bl b) H) := by
  intro pins s σ H xs us Q I r h
  obtain ⟨e, C, v, c, cv, b, rfl, ⟨d, h1, h2⟩, T, hc, hk, q⟩ := h
  match us, r with
  | _, .cons rx (.cons rt .nil) =>
    cases rx
    have ec := hc.eq rt
    subst ec
    have fin : ∀ tk : Nat, EP X pins σ Q (.bool b) { s with toks := tk } := fun tk => ⟨.bl b, H, I.kept (t' := tk) fun _ _ z => z, rfl, q⟩
    obtain ⟨⟨oe, vs, ho, hz, hdt⟩, _, _⟩ := (show ObjOk X.prog X.w H s.heap e (exk e (.ref C) (some d)) from I.hok e _ h1)
    obtain ⟨mA, dns, _⟩ := (show ObjOk X.prog X.w H s.heap d (vdict v) from I.hok d _ h2)
    obtain ⟨od, hod, _⟩ := lookIn_ns dns
    have J : PySem.W.InstAt s.heap e oe C (some od) := ⟨ho, hz.1, by unfold PySem.W.notCls; rw [hdt] <;> rfl, by rw [hz.2.1]; exact hod⟩
    exact PySem.W.kia_one (PySem.W.kitx_exc (K1.is_clsIn T.hd) T.hg T.hk T.hs T.ha T.hn T.ht T.hm) I.kIn J hk (fun z => nomatch z) fun tk => fin tk
end
end XN

namespace XN
open PySem PySem.Spec PyProof.Rows L2
open PySem.W (Frag)
/-! ### try .. except X as n (some clauses): the caught error is tracked, and stays -/
abbrev Suite := Addr → Value → Option Addr → TS
/-- what the clauses wish of an error of the body; slot i is the name's -/
def wKeep (K : Frag) (Wout : WX) (D : Ends) : List (Value × Nat × Suite) → WX
  | [] => Wout
  | (c, i, ts) :: more => fun cls d σ H => ∃ b, PySem.W.exmOne K cls c = some b ∧ (b = false → wKeep K Wout D more cls d σ H) ∧
      (b = true → ∀ e, H e = none → ts e cls d { nx := fun σ1 H1 => D.nx (σ1.set i none) H1, rt := D.rt, bk := fun σ1 H1 => D.bk (σ1.set i none) H1, ct := fun σ1 H1 => D.ct (σ1.set i none) H1 } (σ.set i (some (.ref e))) (upd H e (exk e cls d)))
/-- the clauses and their readings -/
inductive Clauses (X : Cx) : List ExceptHandler → List (Value × Nat × Suite) → Prop
  | none : Clauses X [] []
  | one {x n : Str} {c : Value} {i : Nat} {ts : Suite} {b₀ : Stmt} {suite : List Stmt} {np cpos : Pos} {more : List ExceptHandler} {l : List (Value × Nat × Suite)} (cn : Names X x c) (ix : X.N[i]? = some n) (loc : X.env.kindOf n = some .local)
      (su : ∀ (e : Addr) (cls : Value) (d : Option Addr) (pn : List (Addr × Obj)), PSs (X.suite e pn) (b₀ :: suite) (ts e cls d)) (m : Clauses X more l) : Clauses X (.ExceptHandler (some (.Name x np)) (some n) (b₀ :: suite) cpos :: more) ((c, i, ts) :: l)
section
variable {X : Cx} {pins : List (Addr × Obj)} {σ : L2.St} {H : Hp} {s : Shared}
/-- a caught error joins what is tracked -/
theorem join {e : Addr} {cls : Value} {d : Option Addr} {oe : Obj} {vs : Array Value} (I : Inv X pins σ H s) (he : s.heap.get? e = some oe) (hz : L2N.Zn cls d oe) (hd : oe.data = .fields vs) (ne : H e = none) (nL : e ≠ X.env.locals) (old : X.s_0.heap.get? e = none) (np : ∀ q ∈ X.pn ++ pins, q.1 ≠ e) :
    Inv (X.suite e (X.pn ++ pins)) [] σ (upd H e (exk e cls d)) s := by
  have stays : ∀ {b : Addr} {o : HO}, H b = some o → (upd H e (exk e cls d)) b = some o := fun {b o} z => by
    rw [upd_ne (ne_of_none z ne)]
    exact z
  have empty : ∀ {b : Addr}, b ≠ e → H b = none → (upd H e (exk e cls d)) b = none := fun {b} hb z => by
    rw [upd_ne hb]
    exact z
  have U := I.base
  refine ⟨I.ok.suite _ _, I.os, I.bare, { U with free := fun b o q n x => empty (fun z => by rw [z, old] at q; cases q) (U.free b o q n x), tups := fun b xs q => stays (U.tups b xs q), frzs := fun b o u q => stays (U.frzs b o u q), tbls := fun b ps q => ?_ }, I.loc, I.cell, empty nL.symm I.free, fun y c q => empty (fun z => ?_) (I.freeC y c q), fun q hq => ?_, fun b o q => ?_, I.len⟩
  · obtain ⟨more, z⟩ := U.tbls b ps q
    exact ⟨more, stays z⟩
  · obtain ⟨v, o, ho, hc⟩ := I.cell y c q
    rw [z, he] at ho
    cases ho
    rw [hd] at hc
    cases hc
  · have hq' : q ∈ X.pn ++ pins := by rw [List.append_nil] at hq; exact hq
    obtain ⟨z1, z2, z3⟩ := I.pin q hq'
    exact ⟨z1, empty (np q hq') z2, z3⟩
  · by_cases hb : b = e
    · subst hb
      rw [upd_same] at q
      injection q with q
      rw [← q]
      exact exk_ok he hz hd
    · rw [upd_ne hb] at q
      exact (I.hok b o q).stay (fun _ _ _ z => z) (fun c z => stays z) fun c xs z => stays z
theorem part {e : Addr} {pn' : List (Addr × Obj)} (ok : X.Ok) (I : Inv (X.suite e (X.pn ++ pins)) pn' σ H s) : Inv X pins σ H s :=
  ⟨ok, I.os, I.bare, I.base, I.loc, I.cell, I.free, I.freeC, fun q hq => I.pin q (List.mem_append_left _ hq), I.hok, I.len⟩
/-- an error that has been caught, over the state before it -/
structure Got (X : Cx) (pins : List (Addr × Obj)) (σ : L2.St) (H : Hp) (e : Addr) (cls : Value) (d : Option Addr) (s' : Shared) : Prop where
  run : ∃ (B : Heap) (sI : Shared), Inv X pins σ H sI ∧ (∀ b o, sI.heap.get? b = some o → b ∉ frs X.stack → B.get? b = some o) ∧ sI.heap.UpToSlots s'.heap ∧ PySem.HandSPX.FlyingZ B (X.env :: X.outer) e (L2N.Zn cls d) s'.heap ∧ s'.os = sI.os ∧ AllBare s'.gens
  free : H e = none
theorem Got.facts {e : Addr} {cls : Value} {d : Option Addr} {s' : Shared} (G : Got X pins σ H e cls d s') (hs : X.stack = X.env :: X.outer) (hf : X.env.frame = some X.env.locals) (hx : X.ex = []) :
    Inv X pins σ H s' ∧ (∃ oe vs, s'.heap.get? e = some oe ∧ L2N.Zn cls d oe ∧ oe.data = .fields vs) ∧ e ≠ X.env.locals ∧ e ∉ X.fs ∧ X.s_0.heap.get? e = none ∧ ∀ q ∈ X.pn ++ pins, q.1 ≠ e := by
  obtain ⟨B, sI, J, nb, up, fl, os, ag⟩ := G.run
  obtain ⟨oe, vs, he, hz, hd⟩ := fl.there
  have nF : e ∉ frs (X.env :: X.outer) := fun hm => by
    obtain ⟨_, o2, z2, no⟩ := fl.2.2.1.mem hm
    rw [he] at z2
    cases z2
    exact no _ hd
  have inI : sI.heap.get? e = none := by
    cases z : sI.heap.get? e with
    | none => rfl
    | some o =>
      have z2 := nb e o z (by rw [hs]; exact nF)
      rw [fl.2.1] at z2
      cases z2
  refine ⟨J.landed nb fl.1 up os ag, ⟨oe, vs, he, hz, hd⟩, fun z => nF (List.mem_filterMap.mpr ⟨X.env, List.mem_cons_self, by rw [hf, z]⟩), fun hm => ?_, ?_, fun q hq z => ?_⟩
  · obtain ⟨v, h1, h2⟩ := List.mem_filterMap.mp hm
    exact nF (List.mem_filterMap.mpr ⟨v, List.mem_cons_of_mem _ h1, h2⟩)
  · cases z : X.s_0.heap.get? e with
    | none => rfl
    | some o =>
      obtain ⟨o2, z2⟩ := J.base.there e o z (by rw [hx]; simp)
      rw [inI] at z2
      cases z2
  · obtain ⟨z1, _⟩ := J.pin q hq
    rw [z, inI] at z1
    cases z1
theorem Got.land {e : Addr} {cls : Value} {d : Option Addr} {s' : Shared} {h' : Heap} (G : Got X pins σ H e cls d s') (fly : ∀ B, PySem.HandSPX.FlyingZ B (X.env :: X.outer) e (L2N.Zn cls d) s'.heap → PySem.HandSPX.FlyingZ B (X.env :: X.outer) e (L2N.Zn cls d) h') (u : s'.heap.UpToSlots h') : Got X pins σ H e cls d { s' with heap := h' } := by
  obtain ⟨B, sI, J, nb, up, fl, os, ag⟩ := G.run
  exact ⟨⟨B, sI, J, nb, up.trans u, fly B fl, os, ag⟩, G.free⟩
end
section
variable {X : Cx} {pins : List (Addr × Obj)} {Wout : WX} {D : Ends}
theorem clauses_run (hs : X.stack = X.env :: X.outer) (hf : X.env.frame = some X.env.locals) (hx : X.ex = []) (hN : X.N.Nodup) (ok : X.Ok) (tk : L2N.Takes X Wout) {e : Addr} {cls : Value} {d : Option Addr} {σ : L2.St} {H : Hp} {s' : Shared} (G : Got X pins σ H e cls d s') :
    ∀ {hds : List ExceptHandler} {l : List (Value × Nat × Suite)}, Clauses X hds l → wKeep X.K Wout D l cls d σ H → wpAny (model X.prog X.w) X.A (handleBy (.ref e) X.env hds) (SP X pins D) X.xe s' := by
  intro hds l C
  induction C with
  | none =>
    intro w
    obtain ⟨B, sI, J, nb, up, fl, os, ag⟩ := G.run
    refine wpAny_handleBy_nil ?_
    obtain ⟨_, _, _, oe, vs, T, oT, _, he, _, hd, h1, _⟩ := id fl
    have last : wpAny (model X.prog X.w) X.A (setFlight (.ref e) X.env.frame) (fun _ s4 => wpAny (model X.prog X.w) X.A (throw (.ref e) : Sem Flow) (SP X pins D) X.xe s4) X.xe s' := by
      rw [hf]
      exact HandSPX.setFlight_upZ fl fun h4 held u4 => wpAny_throw (tk _ _ ⟨e, B, sI, pins, σ, H, cls, d, rfl, J, nb, up.trans u4, .inr (.inr (by rw [hs]; exact held)), G.free, os, ag, w⟩)
    unfold PySem.passOn
    refine wpAny_bind (wpAny_field he hd h1 ?_)
    rw [if_neg (show ¬ ((Value.ref T == Value.none) = true) by simp)]
    first
      | exact wpAny_bind (wpAny_pure (wpAny_bind last))
      | exact wpAny_bind last
  | @one x n c i ts b₀ suite np cpos more l cn ix loc su m ih =>
    rintro ⟨b, hb, no, yes⟩
    obtain ⟨J, ⟨oe, vs, he, hz, hd⟩, nL, nF, s0, npn⟩ := G.facts hs hf hx
    have S := join J he hz hd G.free nL s0 npn
    refine wpAny_handleBy_cons (codeAny_handlers_test ?_) (by intro z; cases z)
    have kind : PySem.W.Looks (model X.prog X.w) s'.heap (typeOf (.ref e)) cls := fun A' Q' E' s2 k q => wpAny_typeOf_ref (k _ _ he) (by rw [hz.1]; exact q)
    have match_ := PySem.W.exm_one (M := model X.prog X.w) J.kIn kind hb
    have named : ∀ {Q E : Value → Shared → Prop}, Q c s' → wpAny (model X.prog X.w) (X.A.mark (some (.ref e))) (eval (.Name x np) X.env) Q E s' := fun {Q E} q => by
      obtain ⟨g1, g2, z | ⟨z1, z2, z3⟩⟩ := cn
      · exact ld_glob (X := X.suite e (X.pn ++ pins)) S g1 z q g2
      · exact ld_blt (X := X.suite e (X.pn ++ pins)) S g1 z1 z2 q z3 g2
    refine named (match_.here ?_)
    match b, no, yes with
    | false, no, _ => exact ih (no rfl)
    | true, _, yes =>
      obtain ⟨B, sI, J0, nb, up, fl, os, ag⟩ := G.run
      refine codeAny_handlers_suite_as (HandSPX.lands_againZ fl fun h4 fl4 up4 => ?_)
      have G4 : Got X pins σ H e cls d { s' with heap := h4 } := ⟨⟨B, sI, J0, nb, up.trans up4, fl4, os, ag⟩, G.free⟩
      obtain ⟨J4, ⟨oe4, vs4, he4, hz4, hd4⟩, _⟩ := G4.facts hs hf hx
      refine store_ok (X := X.suite e (X.pn ++ pins)) (v := .ref e) (join J4 he4 hz4 hd4 G.free nL s0 npn) hN ix (.inl loc) rfl (fun s5 S5 => ?_) (.inr loc)
      refine wpAny_mono ((su e cls d (X.pn ++ pins)).run [] s5 _ _ _ S5 (yes rfl e G.free)) (fun f s6 hsp => ?_) fun _ _ z => z.elim
      have out : ∀ {σ6 : L2.St} {H6 : Hp} {Q : Shared → Prop} {pn6 : List (Addr × Obj)}, Inv (X.suite e (X.pn ++ pins)) pn6 σ6 H6 s6 → (∀ s7, Inv X pins (σ6.set i none) H6 s7 → Q s7) → wpAny (model X.prog X.w) X.A (do bindName X.env n .none; unbindBehindTheSuite X.env n cpos) (fun _ s7 => Q s7) X.xe s6 :=
        fun S6 q => gone_ok (part ok S6) hN ix loc q
      match f, hsp with
      | .next, ⟨σ6, H6, S6, q6⟩ => exact out S6 fun s7 J7 => ⟨_, _, J7, q6⟩
      | .brk, ⟨σ6, H6, S6, q6⟩ => exact out S6 fun s7 J7 => ⟨_, _, J7, q6⟩
      | .cont, ⟨σ6, H6, S6, q6⟩ => exact out S6 fun s7 J7 => ⟨_, _, J7, q6⟩
      | .ret u, ⟨v6, σ6, H6, S6, r6, q6⟩ => exact out S6 fun s7 J7 => ⟨_, _, _, J7, r6, q6⟩
theorem ps_tryK {body : List Stmt} {hd : ExceptHandler} {hds : List ExceptHandler} {l : List (Value × Nat × Suite)} {pos : Pos} {tb : WX → TS} (hs : X.stack = X.env :: X.outer) (hf : X.env.frame = some X.env.locals) (hx : X.ex = []) (hN : X.N.Nodup) (tk : L2N.Takes X Wout)
    (hb : ∀ (W : WX) (pn : List (Addr × Obj)) (xe : Value → Shared → Prop), L2N.Takes (X.tr pn xe) W → PassesOwn (model X.prog X.w) X.A X.env xe → PSs (X.tr pn xe) body (tb W)) (hc : Clauses X (hd :: hds) l) : PS X (.Try body (hd :: hds) [] [] pos) (fun D σ H => tb (wKeep X.K Wout D l) D σ H) := by
  refine ⟨fun pins s σ H D I h => ?_⟩
  have ok := I.ok
  have fr : X.A.frames = some (X.env :: X.outer) := by rw [ok.frames, hs]
  refine wpAny_Try_except (wpAny_mono ((hb (wKeep X.K Wout D l) (X.pn ++ pins) _ (fun u s' xx => ?_) PassesOwn.looking).run [] s σ H D (I.toTry _) h) (fun f s1 hsp => ?_) fun _ _ z => z)
  · obtain ⟨e, B, sI, pins', σ', H', cls, d, rfl, J', nb, up, sky, ne, os, ag, w⟩ := xx
    have J : Inv X pins σ' H' sI := J'.ofTry ok
    refine L2N.Sky.land L2N.Zn.steady fr hf (by rw [← hs]; exact sky) fun h3 fl3 up3 => ?_
    exact clauses_run hs hf hx hN ok tk (s' := { s' with heap := h3 }) ⟨⟨B, sI, J, nb, up.trans up3, fl3, os, ag⟩, ne⟩ hc w
  · match f, hsp with
    | .next, ⟨σ', H', J', q⟩ => exact wpAny_execs_nil ⟨σ', H', J'.ofTry ok, q⟩
    | .brk, ⟨σ', H', J', q⟩ => exact ⟨σ', H', J'.ofTry ok, q⟩
    | .cont, ⟨σ', H', J', q⟩ => exact ⟨σ', H', J'.ofTry ok, q⟩
    | .ret u, ⟨v, σ', H', J', r, q⟩ => exact ⟨v, σ', H', J'.ofTry ok, r, q⟩
end
end XN

namespace XN
open PySem PySem.Spec PyProof.Rows L2 KT
open PySem.W (Frag)
section
variable {X : Cx} {CX : CXT} {k : Nat} {f : Addr} {fd : FuncData} {ps ks : List Str} {sp : Sp} {E : L2.St → XK} {g : List Value → List Value → List Value} {gV : List V → List V → List V} {σ : L2.St}
theorem run_fnkS {pins : List (Addr × Obj)} {H : Hp} {s : Shared} {Q : VK} {us ws : List Value} {vs zs : List V} (F : FnOk X.prog X.w X.K X.mg X.base CX k f fd ps sp) (hr : Room k X.A) (hb : KBinds X.K fd ps ks g gV) (hx : PassesAt CX X σ (E σ))
    (I : Inv X pins σ H s) (r : Vals vs us) (rz : Vals zs ws) (h : sp (gV vs zs) H Q (E σ)) : wpAny (model X.prog X.w) X.A (call (.ref f) us (ks.zip ws)) (EP X pins σ Q) X.xe s := by
  have r2 := hb.rel r rz
  have hl : (g us ws).length = ps.length := by rw [← r2.length]; exact F.len _ _ _ _ h
  refine wpAny_call (codeAny_mono (F.run X.A X.stack s H ⟨us, ks.zip ws⟩ (g us ws) (gV vs zs) Q (E σ) hr I.env0 (hb.to s us ws I.kIn hl) r2 h) fun r s' hq => ?_)
  cases r with
  | error e => exact hx pins H s e s' I hq
  | ok fl =>
    cases fl with
    | ret u => exact I.after hq
    | next => exact False.elim hq
    | brk => exact False.elim hq
    | cont => exact False.elim hq
/-- d[k](x = e, ..): one of the defs f j -/
theorem pe_callDK {ι : Type} {kj : ι → Nat} {fj : ι → Addr} {fdj : ι → FuncData} {psj : ι → List Str} {spj : ι → Sp} {gj : ι → List Value → List Value → List Value} {gVj : ι → List V → List V → List V} {d i : Expr} {dp pos : Pos} {tf : TE} {tk : TA} {kws : List Keyword}
    (F : ∀ j, FnOk X.prog X.w X.K X.mg X.base CX (kj j) (fj j) (fdj j) (psj j) (spj j)) (hr : ∀ j, Room (kj j) X.A) (hk : ∀ j, PySem.W.keepIn X.K (.ref (fj j)) = true) (hb : ∀ j, KBinds X.K (fdj j) (psj j) ks (gj j) (gVj j)) (hx : ∀ σ, PassesAt CX X σ (E σ))
    (hf : PE X (.Subscript d i dp) tf) (hkw : PK X kws tk) (hall : (backToKw pos (keywordEach kws X.env)).all (·.1.isSome) = true := by rfl) (hks : (backToKw pos (keywordEach kws X.env)).filterMap (·.1) = ks := by rfl)
    (hpl : ((backTo pos (starEach [] X.env)).any (·.1) || (backToKw pos (keywordEach kws X.env)).any (·.1.isNone)) = false := by rfl) :
    PE X (.Call (.Subscript d i dp) [] kws pos) (fun σ H Q => tf σ H fun v H1 => ∃ j, v = .ref (fj j) ∧ tk σ H1 fun zs H2 => spj j (gVj j [] zs) H2 Q (E σ)) := by
  refine ⟨fun pins s σ H Q I h => ?_⟩
  have arm : eval (.Call (.Subscript d i dp) [] kws pos) X.env = (do callWith pos (← eval (.Subscript d i dp) X.env) [] (backTo pos (starEach [] X.env)) (backToKw pos (keywordEach kws X.env))) := rfl
  rw [arm]
  refine wpAny_bind (thn (hf.run pins s σ H _ I h) fun u s1 ⟨v, H1, I1, r1, j, ev, q1⟩ => ?_)
  subst ev
  obtain rfl : u = Value.ref (fj j) := r1
  refine PySem.W.callWith_KW0 (h₀ := X.base) I1.ok.mod.kin (hk j) hall (thn (hkw.run pos pins s1 σ H1 _ I1 q1) fun ws s2 ⟨zs, H2, I2, rz, q2⟩ => ⟨I2.kIn, ?_⟩) hpl
  rw [hks]
  exact run_fnkS (us := []) (F j) (hr j) (hb j) (hx σ) I2 .nil rz q2
/-- f(x = e, ..), errors going on -/
theorem pe_callKS {x : Str} {p pos : Pos} {tk : TA} {kws : List Keyword} (F : FnOk X.prog X.w X.K X.mg X.base CX k f fd ps sp) (hr : Room k X.A) (hg : Gl X x) (hm : X.mg x = some (.ref f)) (hk : PySem.W.keepIn X.K (.ref f) = true) (hb : KBinds X.K fd ps ks g gV) (hx : ∀ σ, PassesAt CX X σ (E σ))
    (hkw : PK X kws tk) (hall : (backToKw pos (keywordEach kws X.env)).all (·.1.isSome) = true := by rfl) (hks : (backToKw pos (keywordEach kws X.env)).filterMap (·.1) = ks := by rfl)
    (hdb : (x == ("__debug__" : Str)) = false := by decide) (hpl : ((backTo pos (starEach [] X.env)).any (·.1) || (backToKw pos (keywordEach kws X.env)).any (·.1.isNone)) = false := by rfl) :
    PE X (.Call (.Name x p) [] kws pos) (fun σ H Q => tk σ H fun zs H2 => sp (gV [] zs) H2 Q (E σ)) := by
  refine ⟨fun pins s σ H Q I h => ?_⟩
  refine wpAny_Call_Name_kw (ld_glob I hg hm ?_ hdb)
  refine PySem.W.callWith_KW0 (h₀ := X.base) I.ok.mod.kin hk hall (thn (hkw.run pos pins s σ H _ I h) fun ws s2 ⟨zs, H2, I2, rz, q2⟩ => ⟨I2.kIn, ?_⟩) hpl
  rw [hks]
  exact run_fnkS (us := []) F hr hb (hx σ) I2 .nil rz q2
end
end XN

namespace XN
open PySem PySem.Spec PyProof.Rows L2 KT HotX
open PySem.W (Frag)
/-! ### a, b = x, y within an except suite -/
section
variable {prog : Program} {w : World} {A : Around} {E : Value → Shared → Prop} {s : Shared}
theorem tuple_end_hot {it t x1 : Addr} {i : Nat} {items} {Q : Option Value → Shared → Prop} (hot : HotAt A x1 s.heap)
    (hit : IsTupIter s.heap it t i) (ht : IsTup s.heap t items) (hx : items[i]? = none) (nx : x1 ≠ it)
    (hQ : ∀ h', Heap.ExtBut it s.heap h' → Q none { s with heap := h' }) : wpAny (model prog w) A (pyNext (.ref it)) Q E s := by
  obtain ⟨o, ho, hc, hd⟩ := id hit
  obtain ⟨ol, hol, _, nl, hdl⟩ := ht
  obtain ⟨hh, o1, vs1, h1, d1, c1⟩ := hot
  unfold pyNext
  refine wpAny_bind (wpAny_attempt (wpAny_callSpecial?_slot (name := Str.ofString "__next__") hit.typeIs slot_tupleiter_next
    (wpAny_call_entry slot_tupleiter_next hit.typeIs entry_tupleiter_next ?_ (args_tupleiter_next _))))
  show wpAny _ _ (field (.ref it) 0 >>= _) _ _ s
  refine wpAny_bind (wpAny_field ho hd (x := .ref t) rfl ?_)
  show wpAny _ _ (if (Value.ref t == Value.none) = true then _ else _) _ _ s
  rw [if_neg (show ¬ ((Value.ref t == Value.none) = true) from Bool.false_ne_true)]
  show wpAny _ _ (field (.ref it) 1 >>= _) _ _ s
  refine wpAny_bind (wpAny_field ho hd (x := .int i 0) rfl ?_)
  show wpAny _ _ (seqItems? (.ref t) >>= _) _ _ s
  refine wpAny_bind (wpAny_seqItems hol hdl ?_)
  simp only [Int.toNat_natCast, hx]
  refine wpAny_bind (wpAny_rule (wpAny_bind (wpAny_setField ho hd (by simp) ?_)))
  show wpAny _ _ (newExc (.type "StopIteration") [] >>= _) _ _ _
  refine wpAny_bind ?_
  simp only [newExc, newTuple]
  refine wpAny_bind (wpAny_newObj_type ?_ (by size_fits))
  refine wpAny_bind (m := firstArgMember _ _) (wpAny_of_eq (a := Value.none) (by first | rfl | (simp only [firstArgMember]; rfl)) ?_)
  refine wpAny_newObj_type ?_ (by size_fits)
  have h1' := (Heap.get?_update_other s.heap (Obj.mapFields (·.setIfInBounds 0 Value.none)) nx.symm).trans h1
  refine raiseNew_hot ⟨hh, o1, vs1, Heap.get?_push_of_some _ (Heap.get?_push_of_some _ h1'), d1, c1⟩ (Nat.ne_of_lt (Heap.lt_size (Heap.get?_push_of_some _ h1'))) (Heap.get?_push_size _ rfl) rfl (by first | (simp; done) | (simp; omega) | (simp only [Array.size_append]; simp; omega)) ?_
  refine wpAny_bind (wpAny_isInstance (T := "StopIteration") (b := true) ⟨_, Heap.get?_update_self _ (Heap.get?_push_size _ rfl) rfl, rfl⟩ isSubtype_stop ?_)
  refine wpAny_pure (hQ _ fun b o hb e => ?_)
  have e' := (Heap.get?_update_other s.heap (Obj.mapFields (·.setIfInBounds 0 Value.none)) (Ne.symm hb)).trans e
  rw [Heap.get?_update_other _ _ (Nat.ne_of_gt (Heap.lt_size (Heap.get?_push_of_some _ e')))]
  exact Heap.get?_push_of_some _ (Heap.get?_push_of_some _ e')
theorem unpack_tuple_hot {t x1 : Addr} {items : Array Value} {Q : List Value → Shared → Prop} (hot : HotAt A x1 s.heap) (ht : IsTup s.heap t items)
    (hQ : ∀ h', Heap.ExtBut s.heap.objs.size s.heap h' → Q items.toList { s with heap := h' }) : wpAny (model prog w) A (unpackItems (.ref t) items.size none) Q E s := by
  have hlt : t ≠ s.heap.objs.size := by obtain ⟨o, ho, _⟩ := ht; exact Nat.ne_of_lt (Heap.lt_size ho)
  obtain ⟨hh, o1, vs1, h1, d1, c1⟩ := hot
  have hl1 : x1 ≠ s.heap.objs.size := Nat.ne_of_lt (Heap.lt_size h1)
  unfold unpackItems
  refine wpAny_bind ?_
  · unfold notIterableAtAll
    refine wpAny_bind (wpAny_specialOf ht.typeIs slot_tuple_iter.lookup ?_)
    refine wpAny_pure ?_
    simp only [Bool.false_eq_true, if_false]
    refine wpAny_bind (wpAny_holding (iter_tuple ht ?_))
    refine wpAny_bind (wpAny_holding (draw_tuple hlt items.size 0 _ _ ⟨_, Heap.get?_push_size _ rfl, rfl, rfl⟩ (ht.push _) (by omega) fun h₁ hit₁ hs₁ => ?_))
    have hall : List.take items.size (List.drop 0 items.toList) = items.toList := by
      rw [List.drop_zero]; exact List.take_of_length_le (by simp)
    rw [hall]
    rw [if_neg (by simp)]
    have ht₁ : IsTup h₁ t items := (ht.push _).extBut hs₁.extBut hlt
    refine wpAny_bind (wpAny_holding (tuple_end_hot ⟨hh, o1, vs1, hs₁.extBut _ _ hl1 (Heap.get?_push_of_some _ h1), d1, c1⟩ hit₁ ht₁ (by simp) hl1 fun h₂ he₂ => ?_))
    simp only [Option.isSome_none, Bool.false_eq_true, if_false]
    refine wpAny_pure (hQ h₂ fun b o hb e => he₂ b o hb (hs₁.extBut b o hb (Heap.get?_push_of_some _ e)))
end
section
variable {X : Cx} {pos : Pos}
def tParS (e : Addr) (i j : Nat) (ta : TA) : TS := fun D σ H => ta σ H fun vs H1 => ∃ v w, vs = [v, w] ∧ (∃ cls d, H1 e = some (exk e cls d)) ∧ D.nx ((σ.set i (some v)).set j (some w)) H1
theorem ps_parS {i j : Nat} {x y : Str} {a b : Expr} {ta : TA} {px py pt : Pos} {kt k2 pt2} {e : Addr} (hh : X.A.handled = some (.ref e)) (hN : X.N.Nodup) (hi : X.N[i]? = some x) (hj : X.N[j]? = some y) (hij : i ≠ j)
    (hx : X.env.scope.names.lookup x = some .local) (hy : X.env.scope.names.lookup y = some .local) (ha : PA X [a, b] ta)
    (hw : swappedStores [.Tuple [.Name x px, .Name y py] kt pt] (.Tuple [a, b] k2 pt2) X.env = pure (some [x, y]))
    (hs : swapsWithSole [.Tuple [.Name x px, .Name y py] kt pt] (.Tuple [a, b] k2 pt2) pos.line X.env = pure false := by rfl) :
    PS X (.Assign [.Tuple [.Name x px, .Name y py] kt pt] (.Tuple [a, b] k2 pt2) pos) (tParS e i j ta) := by
  refine ⟨fun pins s σ H D I h => ?_⟩
  rw [exec_Assign_arm]
  refine wpAny_bind (wpAny_standAt ?_)
  rw [hs]
  refine wpAny_bind (wpAny_pure ?_)
  rw [if_neg (by decide)]
  refine wpAny_bind (Tuple_ (thn (ha.run _ pins s σ H _ I h) fun us s1 ⟨vs, H1, I1, r1, q1⟩ => ?_))
  obtain ⟨v, w, e1, ⟨cls, d, he⟩, q1⟩ := q1
  subst e1
  obtain ⟨u1, u2, rfl, rv, rw'⟩ : ∃ u1 u2, us = [u1, u2] ∧ RelV v u1 ∧ RelV w u2 := by
    cases r1 with
    | cons p q =>
      cases q with
      | cons p' q' =>
        cases q'
        exact ⟨_, _, rfl, p, p'⟩
  refine wpAny_newObj_type ?_ (by show 2 ≤ sizeLine; decide)
  have I2 : Inv X pins σ H1 { s1 with heap := s1.heap.push { cls := .type "tuple", data := .seq [u1, u2].toArray } } := I1.kept (t' := s1.toks) fun b o e => Heap.get?_push_of_some _ e
  rw [hw]
  refine wpAny_bind (wpAny_pure ?_)
  show wpAny (model X.prog X.w) X.A (do rule "assign.swapped-stores"; let items ← unpackItems (.ref s1.heap.objs.size) 2 none; assignInOrder [fun v => bindName X.env y v, fun v => bindName X.env x v] items.reverse; pure Flow.next) _ _ _
  obtain ⟨⟨oe, vs, ho, hz, hdt⟩, _, _⟩ := (show ObjOk X.prog X.w H1 s1.heap e (exk e cls d) from I1.hok e _ he)
  have hot : HotAt X.A e (s1.heap.push { cls := .type "tuple", data := .seq [u1, u2].toArray }) := ⟨hh, oe, vs, Heap.get?_push_of_some _ ho, hdt, hz.2.2 vs hdt⟩
  refine wpAny_bind (wpAny_rule (wpAny_bind (unpack_tuple_hot (items := #[u1, u2]) hot (IsTup.new s1.heap _) fun h' hx' => ?_)))
  have I3 := I2.kept (h' := h') (t' := s1.toks) fun b o e => hx' b o (Nat.ne_of_lt (Heap.lt_size e)) e
  show wpAny _ _ (assignInOrder [fun v => bindName X.env y v, fun v => bindName X.env x v] [u2, u1] >>= fun _ => pure Flow.next) _ _ _
  refine wpAny_bind (assignInOrder_cons (wpAny_bindName (store_ok I3 hN hj (.inl hy) rw' (fun s2 I4 => ?_) (.inr hy))))
  refine assignInOrder_cons (wpAny_bindName (store_ok I4 hN hi (.inl hx) rv (fun s3 I5 => assignInOrder_nil (wpAny_pure ?_)) (.inr hx)))
  rw [List.set_comm _ _ (Ne.symm hij)] at I5
  exact ⟨_, H1, I5, q1⟩
end
end XN
namespace L2
open PySem PySem.Spec PyProof.Rows
section
variable {P : Program} {w : World} {K : PySem.W.Frag} {mg : Str → Option Value} {base : Heap}
/-- as Fun.okX, the errors' context being None -/
theorem Fun.okXN {x qual : Str} {st : Stmt} {f : Addr} {fd : FuncData} {N ps : List Str} {k : Nat} {sp : Sp} (F : Fun K x qual st f fd) (S : FnScope N ps (defScope st)) (len : ∀ vs H Q E, sp vs H Q E → vs.length = ps.length)
    (hbody : ∀ (cdv : Value) (A : Around) (outer : List Env) (s : Shared) (H : Hp) (vs : List V) (Q : VK) (E : XK), Room k (A.deeper (envOfC qual (defScope st) s.heap.objs.size f cdv)) → sp vs H Q E →
      ∃ t, PSs (cxOf (L2N.CX P w) P w K mg base N qual (defScope st) f cdv A outer s H E) (defBody st) t ∧ t { nx := fun _ H' => Q .non H', rt := Q } (start N vs) H) : FnOk P w K mg base (L2N.CX P w) (k + 1) f fd ps sp := by
  obtain ⟨oc, od, kV, doc, pm, an, cdv, ct, osl, rfl, lk, hcd⟩ := F.ex
  exact fn_of lk hcd S len fun A outer s H vs Q E hr hsp => hbody cdv A outer s H vs Q E hr hsp
end
end L2
namespace XN
open PySem PySem.Spec PyProof.Rows L2
theorem takes_none {X : Cx} : L2N.Takes X (fun _ _ _ _ => False) := fun _ _ ⟨_, _, _, _, _, _, _, _, _, _, _, _, _, _, _, _, w⟩ => w.elim
end XN

namespace Q4
open PySem PySem.Spec PyProof.Rows L2 NdefX LamX KT
open PySem.W (Frag)
/-! ### any values before check_kind, are_kinds, is_row, check_row -/
inductive OVb (H : Hp) : List V → List Bool → Prop
  | nil : OVb H [] []
  | cons {v : V} {b : Bool} {n : Nat} {vs : List V} {bs : List Bool} : OV H v b n → n ≤ 1000000 → OVb H vs bs → OVb H (v :: vs) (b :: bs)
theorem OVb.same {H H' : Hp} {vs : List V} {bs : List Bool} (s : Same H H') (h : OVb H vs bs) : OVb H' vs bs := by
  induction h with
  | nil => exact .nil
  | cons a l _ i => exact .cons (a.same s) l i
theorem OVb.length {H : Hp} {vs : List V} {bs : List Bool} (h : OVb H vs bs) : vs.length = bs.length := by
  induction h with
  | nil => rfl
  | cons _ _ _ i => simp only [List.length_cons, i]
theorem OVb.at_ {H : Hp} {vs : List V} {bs : List Bool} (h : OVb H vs bs) : ∀ {i : Nat} {v : V}, vs[i]? = some v → ∃ b n, bs[i]? = some b ∧ OV H v b n ∧ n ≤ 1000000 := by
  induction h with
  | nil => intro i v e; simp at e
  | @cons u b n vs bs a l _ ih =>
    intro i v e
    cases i with
    | zero => obtain rfl := Option.some.inj e; exact ⟨b, n, rfl, a, l⟩
    | succ i => exact ih (by simpa using e)
/-- no list -/
inductive NotL (H : Hp) : V → Prop
  | str (z : Str) : NotL H (.str z)
  | int (i : Int) : NotL H (.int i)
  | bl (b : Bool) : NotL H (.bl b)
  | non : NotL H .non
  | tup {p : Addr} {xs : List V} : H p = some (.tup xs) → NotL H (.ref p)
  | dK {p : Addr} {kvs : List (Key × V)} : H p = some (.dK kvs) → NotL H (.ref p)
/-- a value, whether it is a list of types, whether it is a row -/
inductive RV (H : Hp) : V → Bool → Bool → Prop
  | no {v : V} : NotL H v → RV H v false false
  | lst {p : Addr} {xs : List V} {bs : List Bool} : H p = some (.lst xs) → xs.length ≤ 4000 → OVb H xs bs → RV H (.ref p) (bs.all id) (bs.all id && decide (0 < xs.length))
theorem RV.same {H H' : Hp} {v : V} {a b : Bool} (s : Same H H') (h : RV H v a b) : RV H' v a b := by
  cases h with
  | no h =>
    cases h with
    | str z => exact .no (.str z)
    | int i => exact .no (.int i)
    | bl b => exact .no (.bl b)
    | non => exact .no .non
    | tup e => exact .no (.tup (s _ _ e))
    | dK e => exact .no (.dK (s _ _ e))
  | lst e l h => exact .lst (s _ _ e) l (h.same s)
section
variable {P : Program} {w : World} {K : Frag} {mg : Str → Option Value} {base : Heap} {C fI : Addr}
def spCheckKindA (C : Addr) : Sp := fun vs H Q E => ∃ v b n, vs = [v] ∧ OV H v b n ∧ n ≤ 1000000 ∧ (b = true → ∀ H', Same H H' → Q .non H') ∧ (b = false → ∀ d H', Same H H' → H' d = none → E (.ref C) (some d) (upd H' d (XN.vdict v)))
theorem ok_checkKindA {f fi : Addr} {fd fdi : FuncData} (T : Top K mg "check_kind" sCheckKind pCheckKind f fd) (TI : Top K mg "is_kind" sIsKind pIsKind fi fdi) (GI : FnOk P w K mg base CX0 2 fi fdi pIsKind spIsKindA) (PE_ : K1.ErrC K mg "InvalidKind" C fI) : FnOk P w K mg base (L2N.CX P w) 3 f fd pCheckKind (spCheckKindA C) := by
  refine T.F.okXN scCheckKind (fun vs H Q E h => ?_) (fun cdv A outer s H vs Q E hr h => ?_)
  · obtain ⟨_, _, _, rfl, _⟩ := h
    rfl
  · obtain ⟨v, b, n, rfl, hv, hn, k1, k2⟩ := h
    have hr1 : Room 1 _ := hr.mono (by decide)
    have rs : Raises (cxOf (L2N.CX P w) P w K mg base nCheckKind "check_kind" (defScope sCheckKind) f cdv A outer s H E) (.ref C) := raises_own PE_.ox.exC PE_.ox.tyC
    refine ⟨_, pss_one (ps_if (pt_not (pt_val (pe_call GI hr rfl TI.g TI.F.kp TI.b .nil pass0 (pa_cons (pv 0) pa_nil)))) (pss_one (XN.ps_raiseE rfl PE_ rs hr1 (L2N.takes_of rfl rfl rfl rfl) (pv 0))) pss_nil), ?_⟩
    refine ⟨v, rfl, v, b, n, rfl, hv, hn, fun H' s' => ⟨_, rfl, ?_⟩⟩
    cases b with
    | true => exact iteF (k1 rfl H' s')
    | false => exact iteT ⟨_, rfl, fun d hd => k2 rfl d H' s' hd⟩
def spAreKindsA : Sp := fun vs H Q _ => ∃ v a b, vs = [v] ∧ RV H v a b ∧ ∀ H', Same H H' → Q (.bl a) H'
def spIsRowA : Sp := fun vs H Q _ => ∃ v a b, vs = [v] ∧ RV H v a b ∧ ∀ H', Same H H' → Q (.bl b) H'
def spCheckRowA (C : Addr) : Sp := fun vs H Q E => ∃ v a b, vs = [v] ∧ RV H v a b ∧ (b = true → ∀ H', Same H H' → Q .non H') ∧ (b = false → ∀ d H', Same H H' → H' d = none → E (.ref C) (some d) (upd H' d (XN.vdict v)))
end
end Q4

namespace Q4
open PySem PySem.Spec PyProof.Rows L2 NdefX LamX KT
open PySem.W (Frag)
/-! ### errors -/
def Err1 (C : Addr) (v : V) (H : Hp) (E : XK) : Prop := ∀ d H', Same H H' → H' d = none → E (.ref C) (some d) (upd H' d (XN.vdict v))
theorem Err1.same {C : Addr} {v : V} {H H' : Hp} {E : XK} (s : Same H H') (h : Err1 C v H E) : Err1 C v H' E := fun d H2 s2 nd => h d H2 (s.trans s2) nd
def NoK (H : Hp) (v : V) : Prop := ∃ n, OV H v false n ∧ n ≤ 1000000
theorem NoK.same {H H' : Hp} {v : V} (s : Same H H') (h : NoK H v) : NoK H' v := h.elim fun n q => ⟨n, q.1.same s, q.2⟩
structure GoodK (H : Hp) (v : V) (t : Ty) : Prop where
  a : TyAt H v t
  s : t.signs ≤ 20
theorem GoodK.same {H H' : Hp} {v : V} {t : Ty} (s : Same H H') (h : GoodK H v t) : GoodK H' v t := ⟨h.a.mono (TK.of_same s), h.s⟩
section
variable {P : Program} {w : World} {K : Frag} {mg : Str → Option Value} {base : Heap} {T : List (Addr × Str)} {C fI : Addr}
def sp1 (No : Hp → V → Prop) (C : Addr) : Sp := fun vs H Q E => ∃ v, vs = [v] ∧ No H v ∧ Err1 C v H E
def sp2 (No : Hp → V → Prop) (C : Addr) : Sp := fun vs H Q E => ∃ v u, vs = [v, u] ∧ No H v ∧ Err1 C v H E
def sp2r (Ri No : Hp → V → Prop) (C : Addr) : Sp := fun vs H Q E => ∃ v u, vs = [v, u] ∧ Ri H v ∧ No H u ∧ Err1 C u H E
def sp3 (No : Hp → V → Prop) (C : Addr) : Sp := fun vs H Q E => ∃ v u y, vs = [v, u, y] ∧ No H v ∧ Err1 C v H E
def sp3r (Ri No : Hp → V → Prop) (C : Addr) : Sp := fun vs H Q E => ∃ v u y, vs = [v, u, y] ∧ Ri H v ∧ No H u ∧ Err1 C u H E
def KdR (H : Hp) (v : V) : Prop := ∃ t, GoodK H v t
theorem no_check {f : Addr} {fd : FuncData} (G : FnOk P w K mg base (L2N.CX P w) 3 f fd pCheckKind (spCheckKindA C)) : FnOk P w K mg base (L2N.CX P w) 3 f fd pCheckKind (sp1 NoK C) :=
  G.imp fun vs H Q E ⟨v, ev, ⟨n, hv, hn⟩, k⟩ => ⟨v, false, n, ev, hv, hn, (fun z => nomatch z), fun _ d H' s' nd => k d H' s' nd⟩
theorem right_kind {f fi : Addr} {fd fdi : FuncData} (T : Top K mg "check_kind" sCheckKind pCheckKind f fd) (TI : Top K mg "is_kind" sIsKind pIsKind fi fdi) (GI : FnOk P w K mg base CX0 2 fi fdi pIsKind spIsKindA) : FnOk P w K mg base CX0 3 f fd pCheckKind (fun vs H Q _ => ∃ v, vs = [v] ∧ KdR H v ∧ ∀ H', Same H H' → Q .non H') := by
  refine T.F.ok scCheckKind (fun vs H Q E h => ?_) (fun cdv A outer s H vs Q E hr h => ?_)
  · obtain ⟨_, rfl, _⟩ := h
    rfl
  · obtain ⟨v, rfl, ⟨t, ht⟩, k⟩ := h
    refine ⟨_, pss_one (ps_if (pt_not (pt_val (pe_call GI hr rfl TI.g TI.F.kp TI.b .nil pass0 (pa_cons (pv 0) pa_nil)))) pss_never pss_nil), ?_⟩
    have := t.size_signs
    have := ht.s
    exact ⟨v, rfl, v, true, _, rfl, ht.a.ov, by omega, fun H' s' => ⟨_, rfl, iteF (k H' s')⟩⟩
theorem no_raising1 {f fc : Addr} {fd fdc : FuncData} (T : Top K mg "raising" sRaising pRaising f fd) (TC : Top K mg "check_kind" sCheckKind pCheckKind fc fdc) (GC : FnOk P w K mg base (L2N.CX P w) 3 fc fdc pCheckKind (sp1 NoK C)) : FnOk P w K mg base (L2N.CX P w) 4 f fd pRaising (sp3 NoK C) := by
  refine T.F.okXN scRaising (fun vs H Q E h => ?_) (fun cdv A outer s H vs Q E hr h => ?_)
  · obtain ⟨_, _, _, rfl, _⟩ := h
    rfl
  · obtain ⟨v, u, y, rfl, hv, k⟩ := h
    have hrc : Room 3 _ := hr.mono (by decide)
    refine ⟨_, pss_cons (ps_expr (pe_callS GC hrc rfl TC.g TC.F.kp TC.b (fun σ => L2N.passAt (L2N.takes_of rfl rfl rfl rfl) σ) (pa_cons (pv 0) pa_nil))) pss_never, ?_⟩
    exact ⟨v, rfl, v, rfl, hv, k⟩
theorem no_raising2 {f fc : Addr} {fd fdc : FuncData} (T : Top K mg "raising" sRaising pRaising f fd) (TC : Top K mg "check_kind" sCheckKind pCheckKind fc fdc) (GR : FnOk P w K mg base CX0 3 fc fdc pCheckKind (fun vs H Q _ => ∃ v, vs = [v] ∧ KdR H v ∧ ∀ H', Same H H' → Q .non H')) (GC : FnOk P w K mg base (L2N.CX P w) 3 fc fdc pCheckKind (sp1 NoK C)) : FnOk P w K mg base (L2N.CX P w) 4 f fd pRaising (sp3r KdR NoK C) := by
  refine T.F.okXN scRaising (fun vs H Q E h => ?_) (fun cdv A outer s H vs Q E hr h => ?_)
  · obtain ⟨_, _, _, rfl, _⟩ := h
    rfl
  · obtain ⟨v, u, y, rfl, hv, hn, k⟩ := h
    have hrc : Room 3 _ := hr.mono (by decide)
    refine ⟨_, pss_cons (ps_expr (pe_call GR hrc rfl TC.g TC.F.kp TC.b .nil pass0 (pa_cons (pv 0) pa_nil))) (pss_cons (ps_expr (pe_callS GC hrc rfl TC.g TC.F.kp TC.b (fun σ => L2N.passAt (L2N.takes_of rfl rfl rfl rfl) σ) (pa_cons (pv 1) pa_nil))) pss_never), ?_⟩
    exact ⟨v, rfl, v, rfl, hv, fun H1 s1 => ⟨u, rfl, u, rfl, hn.same s1, k.same s1⟩⟩
theorem no_composing1 {f fc : Addr} {fd fdc : FuncData} (T : Top K mg "composing" sComposing pComposing f fd) (TC : Top K mg "check_kind" sCheckKind pCheckKind fc fdc) (GC : FnOk P w K mg base (L2N.CX P w) 3 fc fdc pCheckKind (sp1 NoK C)) : FnOk P w K mg base (L2N.CX P w) 4 f fd pComposing (sp2 NoK C) := by
  refine T.F.okXN scComposing (fun vs H Q E h => ?_) (fun cdv A outer s H vs Q E hr h => ?_)
  · obtain ⟨_, _, rfl, _⟩ := h
    rfl
  · obtain ⟨v, u, rfl, hv, k⟩ := h
    have hrc : Room 3 _ := hr.mono (by decide)
    refine ⟨_, pss_cons (ps_expr (pe_callS GC hrc rfl TC.g TC.F.kp TC.b (fun σ => L2N.passAt (L2N.takes_of rfl rfl rfl rfl) σ) (pa_cons (pv 0) pa_nil))) pss_never, ?_⟩
    exact ⟨v, rfl, v, rfl, hv, k⟩
theorem no_composing2 {f fc : Addr} {fd fdc : FuncData} (T : Top K mg "composing" sComposing pComposing f fd) (TC : Top K mg "check_kind" sCheckKind pCheckKind fc fdc) (GR : FnOk P w K mg base CX0 3 fc fdc pCheckKind (fun vs H Q _ => ∃ v, vs = [v] ∧ KdR H v ∧ ∀ H', Same H H' → Q .non H')) (GC : FnOk P w K mg base (L2N.CX P w) 3 fc fdc pCheckKind (sp1 NoK C)) : FnOk P w K mg base (L2N.CX P w) 4 f fd pComposing (sp2r KdR NoK C) := by
  refine T.F.okXN scComposing (fun vs H Q E h => ?_) (fun cdv A outer s H vs Q E hr h => ?_)
  · obtain ⟨_, _, rfl, _⟩ := h
    rfl
  · obtain ⟨v, u, rfl, hv, hn, k⟩ := h
    have hrc : Room 3 _ := hr.mono (by decide)
    refine ⟨_, pss_cons (ps_expr (pe_call GR hrc rfl TC.g TC.F.kp TC.b .nil pass0 (pa_cons (pv 0) pa_nil))) (pss_cons (ps_expr (pe_callS GC hrc rfl TC.g TC.F.kp TC.b (fun σ => L2N.passAt (L2N.takes_of rfl rfl rfl rfl) σ) (pa_cons (pv 1) pa_nil))) pss_never), ?_⟩
    exact ⟨v, rfl, v, rfl, hv, fun H1 s1 => ⟨u, rfl, u, rfl, hn.same s1, k.same s1⟩⟩
theorem no_dividing1 {f fc : Addr} {fd fdc : FuncData} (T : Top K mg "dividing" sDividing pDividing f fd) (TC : Top K mg "check_kind" sCheckKind pCheckKind fc fdc) (GC : FnOk P w K mg base (L2N.CX P w) 3 fc fdc pCheckKind (sp1 NoK C)) : FnOk P w K mg base (L2N.CX P w) 4 f fd pDividing (sp2 NoK C) := by
  refine T.F.okXN scDividing (fun vs H Q E h => ?_) (fun cdv A outer s H vs Q E hr h => ?_)
  · obtain ⟨_, _, rfl, _⟩ := h
    rfl
  · obtain ⟨v, u, rfl, hv, k⟩ := h
    have hrc : Room 3 _ := hr.mono (by decide)
    refine ⟨_, pss_cons (ps_expr (pe_callS GC hrc rfl TC.g TC.F.kp TC.b (fun σ => L2N.passAt (L2N.takes_of rfl rfl rfl rfl) σ) (pa_cons (pv 0) pa_nil))) pss_never, ?_⟩
    exact ⟨v, rfl, v, rfl, hv, k⟩
theorem no_dividing2 {f fc : Addr} {fd fdc : FuncData} (T : Top K mg "dividing" sDividing pDividing f fd) (TC : Top K mg "check_kind" sCheckKind pCheckKind fc fdc) (GR : FnOk P w K mg base CX0 3 fc fdc pCheckKind (fun vs H Q _ => ∃ v, vs = [v] ∧ KdR H v ∧ ∀ H', Same H H' → Q .non H')) (GC : FnOk P w K mg base (L2N.CX P w) 3 fc fdc pCheckKind (sp1 NoK C)) : FnOk P w K mg base (L2N.CX P w) 4 f fd pDividing (sp2r KdR NoK C) := by
  refine T.F.okXN scDividing (fun vs H Q E h => ?_) (fun cdv A outer s H vs Q E hr h => ?_)
  · obtain ⟨_, _, rfl, _⟩ := h
    rfl
  · obtain ⟨v, u, rfl, hv, hn, k⟩ := h
    have hrc : Room 3 _ := hr.mono (by decide)
    refine ⟨_, pss_cons (ps_expr (pe_call GR hrc rfl TC.g TC.F.kp TC.b .nil pass0 (pa_cons (pv 0) pa_nil))) (pss_cons (ps_expr (pe_callS GC hrc rfl TC.g TC.F.kp TC.b (fun σ => L2N.passAt (L2N.takes_of rfl rfl rfl rfl) σ) (pa_cons (pv 1) pa_nil))) pss_never), ?_⟩
    exact ⟨v, rfl, v, rfl, hv, fun H1 s1 => ⟨u, rfl, u, rfl, hn.same s1, k.same s1⟩⟩
theorem no_swapping {f fc : Addr} {fd fdc : FuncData} (T : Top K mg "swapping" sSwapping pSwapping f fd) (TC : Top K mg "check_kind" sCheckKind pCheckKind fc fdc) (GC : FnOk P w K mg base (L2N.CX P w) 3 fc fdc pCheckKind (sp1 NoK C)) : FnOk P w K mg base (L2N.CX P w) 4 f fd pSwapping (sp1 NoK C) := by
  refine T.F.okXN scSwapping (fun vs H Q E h => ?_) (fun cdv A outer s H vs Q E hr h => ?_)
  · obtain ⟨_, rfl, _⟩ := h
    rfl
  · obtain ⟨v, rfl, hv, k⟩ := h
    have hrc : Room 3 _ := hr.mono (by decide)
    refine ⟨_, pss_cons (ps_expr (pe_callS GC hrc rfl TC.g TC.F.kp TC.b (fun σ => L2N.passAt (L2N.takes_of rfl rfl rfl rfl) σ) (pa_cons (pv 0) pa_nil))) pss_never, ?_⟩
    exact ⟨v, rfl, v, rfl, hv, k⟩
theorem no_parting {f fc : Addr} {fd fdc : FuncData} (T : Top K mg "parting" sParting pParting f fd) (TC : Top K mg "check_kind" sCheckKind pCheckKind fc fdc) (GC : FnOk P w K mg base (L2N.CX P w) 3 fc fdc pCheckKind (sp1 NoK C)) : FnOk P w K mg base (L2N.CX P w) 4 f fd pParting (sp1 NoK C) := by
  refine T.F.okXN scParting (fun vs H Q E h => ?_) (fun cdv A outer s H vs Q E hr h => ?_)
  · obtain ⟨_, rfl, _⟩ := h
    rfl
  · obtain ⟨v, rfl, hv, k⟩ := h
    have hrc : Room 3 _ := hr.mono (by decide)
    refine ⟨_, pss_cons (ps_expr (pe_callS GC hrc rfl TC.g TC.F.kp TC.b (fun σ => L2N.passAt (L2N.takes_of rfl rfl rfl rfl) σ) (pa_cons (pv 0) pa_nil))) pss_never, ?_⟩
    exact ⟨v, rfl, v, rfl, hv, k⟩
theorem no_packing {f fc : Addr} {fd fdc : FuncData} (T : Top K mg "packing" sPacking pPacking f fd) (TC : Top K mg "check_kind" sCheckKind pCheckKind fc fdc) (GC : FnOk P w K mg base (L2N.CX P w) 3 fc fdc pCheckKind (sp1 NoK C)) : FnOk P w K mg base (L2N.CX P w) 4 f fd pPacking (sp1 NoK C) := by
  refine T.F.okXN scPacking (fun vs H Q E h => ?_) (fun cdv A outer s H vs Q E hr h => ?_)
  · obtain ⟨_, rfl, _⟩ := h
    rfl
  · obtain ⟨v, rfl, hv, k⟩ := h
    have hrc : Room 3 _ := hr.mono (by decide)
    refine ⟨_, pss_cons (ps_expr (pe_callS GC hrc rfl TC.g TC.F.kp TC.b (fun σ => L2N.passAt (L2N.takes_of rfl rfl rfl rfl) σ) (pa_cons (pv 0) pa_nil))) pss_never, ?_⟩
    exact ⟨v, rfl, v, rfl, hv, k⟩
end
end Q4

namespace Q4
open PySem PySem.Spec PyProof.Rows L2 NdefX LamX KT
open PySem.W (Frag)
/-! ### steps refused -/
def Ty.meets (g : Sg) : Ty → Ty → Bool
  | .n g1 _ b, .n g2 b' _ => decide (g1 = g) && decide (g2 = g) && decide (b = b')
  | _, _ => false
section
variable {P : Program} {w : World} {K : Frag} {mg : Str → Option Value} {base : Heap} {C fI : Addr}
def spRefC (C : Addr) : Sp := fun vs H Q E => ∃ v u a b, vs = [v, u] ∧ GoodK H v a ∧ GoodK H u b ∧ Ty.meets .ov a b = false ∧ Ty.meets .un a b = false ∧ Err1 C u H E
theorem ref_composing {f fc fh : Addr} {fd fdc fdh : FuncData} (T : Top K mg "composing" sComposing pComposing f fd) (TC : Top K mg "check_kind" sCheckKind pCheckKind fc fdc) (TH : Top K mg "has_sign" sHasSign pHasSign fh fdh)
    (GC : FnOk P w K mg base CX0 3 fc fdc pCheckKind spCheckKindT) (GH : FnOk P w K mg base CX0 1 fh fdh pHasSign spHasSign) (PE_ : K1.ErrC K mg "Refused" C fI) : FnOk P w K mg base (L2N.CX P w) 4 f fd pComposing (spRefC C) := by
  refine T.F.okXN scComposing (fun vs H Q E h => ?_) (fun cdv A outer s H vs Q E hr h => ?_)
  · obtain ⟨_, _, _, _, rfl, _⟩ := h
    rfl
  · obtain ⟨v1, v2, a, b, rfl, g1, g2, m1, m2, k⟩ := h
    have hr1 : Room 1 _ := hr.mono (by decide)
    have rs : Raises (cxOf (L2N.CX P w) P w K mg base nComposing "composing" (defScope sComposing) f cdv A outer s H E) (.ref C) := raises_own PE_.ox.exC PE_.ox.tyC
    refine ⟨_, (pss_cons (ps_expr (pe_call GC hr rfl TC.g TC.F.kp TC.b .nil pass0 (pa_cons (pv 0) pa_nil)))
      (pss_cons (ps_expr (pe_call GC hr rfl TC.g TC.F.kp TC.b .nil pass0 (pa_cons (pv 1) pa_nil)))
      (pss_cons (ps_if (PW.pt (pw_and (pt_val (pe_call GH hr1 rfl TH.g TH.F.kp TH.b .nil pass0 (pa_cons (pv 0) (pa_cons pe_str pa_nil)))) (pw_and (pt_val (pe_call GH hr1 rfl TH.g TH.F.kp TH.b .nil pass0 (pa_cons (pv 1) (pa_cons pe_str pa_nil)))) (pw_and1 (pt_cmpR (op_eqD (hu64 hr)) (pe_ix ix_tup (pv 0) pe_int (fun _ _ => rfl)) (pe_ix ix_tup (pv 1) pe_int (fun _ _ => rfl)) (nomark _)))))) pss_never pss_nil)
      (pss_cons (ps_if (PW.pt (pw_and (pt_val (pe_call GH hr1 rfl TH.g TH.F.kp TH.b .nil pass0 (pa_cons (pv 0) (pa_cons pe_str pa_nil)))) (pw_and (pt_val (pe_call GH hr1 rfl TH.g TH.F.kp TH.b .nil pass0 (pa_cons (pv 1) (pa_cons pe_str pa_nil)))) (pw_and1 (pt_cmpR (op_eqD (hu64 hr)) (pe_ix ix_tup (pv 0) pe_int (fun _ _ => rfl)) (pe_ix ix_tup (pv 1) pe_int (fun _ _ => rfl)) (nomark _)))))) pss_never pss_nil)
      (pss_one (XN.ps_raiseE rfl PE_ rs hr1 (L2N.takes_of rfl rfl rfl rfl) (pv 1))))))), ?_⟩
    obtain ⟨da, za⟩ := ty_dep_small a
    obtain ⟨db, zb⟩ := ty_dep_small b
    have sa := g1.s
    have sb := g2.s
    refine ⟨v1, rfl, v1, a, rfl, g1.a, by omega, by omega, fun H1 s1 => ⟨v2, rfl, v2, b, rfl, (g2.same s1).a, by omega, by omega, fun H2 s2 => ?_⟩⟩
    have s12 := s1.trans s2
    have t1 := (g1.same s12).a
    have t2 := (g2.same s12).a
    have kk := fun d hd => k d H2 s12 hd
    cases a with
    | w z => exact ⟨_, rfl, v1, _, .ov, rfl, t1, false, rfl, iteF ⟨_, rfl, v1, _, .un, rfl, t1, false, rfl, iteF ⟨_, rfl, kk⟩⟩⟩
    | n g x y =>
      cases g with
      | th => exact ⟨_, rfl, v1, _, .ov, rfl, t1, false, rfl, iteF ⟨_, rfl, v1, _, .un, rfl, t1, false, rfl, iteF ⟨_, rfl, kk⟩⟩⟩
      | ov =>
        refine ⟨_, rfl, v1, _, .ov, rfl, t1, true, rfl, iteT ?_⟩
        cases b with
        | w z => exact ⟨_, rfl, v2, _, .ov, rfl, t2, false, rfl, iteF ⟨_, rfl, v1, _, .un, rfl, t1, false, rfl, iteF ⟨_, rfl, kk⟩⟩⟩
        | n g' x' y' =>
          cases g' with
          | th => exact ⟨_, rfl, v2, _, .ov, rfl, t2, false, rfl, iteF ⟨_, rfl, v1, _, .un, rfl, t1, false, rfl, iteF ⟨_, rfl, kk⟩⟩⟩
          | un => exact ⟨_, rfl, v2, _, .ov, rfl, t2, false, rfl, iteF ⟨_, rfl, v1, _, .un, rfl, t1, false, rfl, iteF ⟨_, rfl, kk⟩⟩⟩
          | ov =>
            refine ⟨_, rfl, v2, _, .ov, rfl, t2, true, rfl, iteT ?_⟩
            obtain ⟨q1, xa, ya, rfl, e1, hx, hy⟩ := tyN t1
            obtain ⟨q2, xb, yb, rfl, e2, hx', hy'⟩ := tyN t2
            obtain ⟨A1, A2⟩ := ty_dp (K := K) hy (by simp only [dep_n] at da; have := (ty_dep_small y).1; simp only [Ty.signs] at sa; omega)
            obtain ⟨B1, B2⟩ := ty_dp (K := K) hx' (by have := (ty_dep_small x').1; simp only [Ty.signs] at sb; omega)
            refine ⟨_, rfl, q1, _, _, _, rfl, rfl, SqT.of e1, atI_nat (j := 2) rfl, _, rfl, q2, _, _, _, rfl, rfl, SqT.of e2, atI_nat (j := 1) rfl, _, _, A1, B1, A2, B2, ?_⟩
            have ne : decide (y = x') = false := by simpa [Ty.meets] using m1
            rw [eqv_ty, ne]
            exact ⟨_, rfl, iteF ⟨_, rfl, .ref q1, _, .un, rfl, t1, false, rfl, iteF ⟨_, rfl, kk⟩⟩⟩
      | un =>
        refine ⟨_, rfl, v1, _, .ov, rfl, t1, false, rfl, iteF ⟨_, rfl, v1, _, .un, rfl, t1, true, rfl, iteT ?_⟩⟩
        cases b with
        | w z => exact ⟨_, rfl, v2, _, .un, rfl, t2, false, rfl, iteF ⟨_, rfl, kk⟩⟩
        | n g' x' y' =>
          cases g' with
          | th => exact ⟨_, rfl, v2, _, .un, rfl, t2, false, rfl, iteF ⟨_, rfl, kk⟩⟩
          | ov => exact ⟨_, rfl, v2, _, .un, rfl, t2, false, rfl, iteF ⟨_, rfl, kk⟩⟩
          | un =>
            refine ⟨_, rfl, v2, _, .un, rfl, t2, true, rfl, iteT ?_⟩
            obtain ⟨q1, xa, ya, rfl, e1, hx, hy⟩ := tyN t1
            obtain ⟨q2, xb, yb, rfl, e2, hx', hy'⟩ := tyN t2
            obtain ⟨A1, A2⟩ := ty_dp (K := K) hy (by have := (ty_dep_small y).1; simp only [Ty.signs] at sa; omega)
            obtain ⟨B1, B2⟩ := ty_dp (K := K) hx' (by have := (ty_dep_small x').1; simp only [Ty.signs] at sb; omega)
            refine ⟨_, rfl, q1, _, _, _, rfl, rfl, SqT.of e1, atI_nat (j := 2) rfl, _, rfl, q2, _, _, _, rfl, rfl, SqT.of e2, atI_nat (j := 1) rfl, _, _, A1, B1, A2, B2, ?_⟩
            have ne : decide (y = x') = false := by simpa [Ty.meets] using m2
            rw [eqv_ty, ne]
            exact ⟨_, rfl, iteF ⟨_, rfl, kk⟩⟩
end
end Q4

namespace Q4
open PySem PySem.Spec PyProof.Rows L2 NdefX LamX KT
open PySem.W (Frag)
def Ty.swaps : Ty → Bool
  | .n .ov x _ => x.hasSg .un
  | .n .un _ y => y.hasSg .ov
  | _ => false
def Ty.bound : Ty → Bool
  | .n .ov _ y => y.hasSg .th
  | .n .un x _ => x.hasSg .th
  | _ => false
def Ty.packs : Ty → Bool
  | .n .ov x _ => x.hasSg .ov
  | .n .un _ y => y.hasSg .un
  | _ => false
section
variable {P : Program} {w : World} {K : Frag} {mg : Str → Option Value} {base : Heap} {C fI : Addr}
def spRefD (C : Addr) : Sp := fun vs H Q E => ∃ v u a b, vs = [v, u] ∧ GoodK H v a ∧ GoodK H u b ∧ a.hasSg .ov = false ∧ a.hasSg .un = false ∧ Err1 C v H E
def spRef1 (p : Ty → Bool) (C : Addr) : Sp := fun vs H Q E => ∃ v a, vs = [v] ∧ GoodK H v a ∧ p a = false ∧ Err1 C v H E
theorem ref_dividing {f fc fh : Addr} {fd fdc fdh : FuncData} (T : Top K mg "dividing" sDividing pDividing f fd) (TC : Top K mg "check_kind" sCheckKind pCheckKind fc fdc) (TH : Top K mg "has_sign" sHasSign pHasSign fh fdh)
    (GC : FnOk P w K mg base CX0 3 fc fdc pCheckKind spCheckKindT) (GH : FnOk P w K mg base CX0 1 fh fdh pHasSign spHasSign) (PE_ : K1.ErrC K mg "Refused" C fI) : FnOk P w K mg base (L2N.CX P w) 4 f fd pDividing (spRefD C) := by
  refine T.F.okXN scDividing (fun vs H Q E h => ?_) (fun cdv A outer s H vs Q E hr h => ?_)
  · obtain ⟨_, _, _, _, rfl, _⟩ := h
    rfl
  · obtain ⟨v1, v2, a, b, rfl, g1, g2, m1, m2, k⟩ := h
    have hr1 : Room 1 _ := hr.mono (by decide)
    have rs : Raises (cxOf (L2N.CX P w) P w K mg base nDividing "dividing" (defScope sDividing) f cdv A outer s H E) (.ref C) := raises_own PE_.ox.exC PE_.ox.tyC
    refine ⟨_, (pss_cons (ps_expr (pe_call GC hr rfl TC.g TC.F.kp TC.b .nil pass0 (pa_cons (pv 0) pa_nil)))
      (pss_cons (ps_expr (pe_call GC hr rfl TC.g TC.F.kp TC.b .nil pass0 (pa_cons (pv 1) pa_nil)))
      (pss_cons (ps_if (pt_val (pe_call GH hr1 rfl TH.g TH.F.kp TH.b .nil pass0 (pa_cons (pv 0) (pa_cons pe_str pa_nil)))) pss_never pss_nil)
      (pss_cons (ps_if (pt_val (pe_call GH hr1 rfl TH.g TH.F.kp TH.b .nil pass0 (pa_cons (pv 0) (pa_cons pe_str pa_nil)))) pss_never pss_nil)
      (pss_one (XN.ps_raiseE rfl PE_ rs hr1 (L2N.takes_of rfl rfl rfl rfl) (pv 0))))))), ?_⟩
    obtain ⟨da, za⟩ := ty_dep_small a
    obtain ⟨db, zb⟩ := ty_dep_small b
    have sa := g1.s
    have sb := g2.s
    refine ⟨v1, rfl, v1, a, rfl, g1.a, by omega, by omega, fun H1 s1 => ⟨v2, rfl, v2, b, rfl, (g2.same s1).a, by omega, by omega, fun H2 s2 => ?_⟩⟩
    have t1 := (g1.same (s1.trans s2)).a
    exact ⟨_, rfl, v1, _, .ov, rfl, t1, false, congrArg V.bl m1, iteF ⟨_, rfl, v1, _, .un, rfl, t1, false, congrArg V.bl m2, iteF ⟨_, rfl, fun d hd => k d H2 (s1.trans s2) hd⟩⟩⟩
theorem ref_swapping {f fc fh : Addr} {fd fdc fdh : FuncData} (T : Top K mg "swapping" sSwapping pSwapping f fd) (TC : Top K mg "check_kind" sCheckKind pCheckKind fc fdc) (TH : Top K mg "has_sign" sHasSign pHasSign fh fdh)
    (GC : FnOk P w K mg base CX0 3 fc fdc pCheckKind spCheckKindT) (GH : FnOk P w K mg base CX0 1 fh fdh pHasSign spHasSign) (PE_ : K1.ErrC K mg "Refused" C fI) : FnOk P w K mg base (L2N.CX P w) 4 f fd pSwapping (spRef1 Ty.swaps C) := by
  refine T.F.okXN scSwapping (fun vs H Q E h => ?_) (fun cdv A outer s H vs Q E hr h => ?_)
  · obtain ⟨_, _, rfl, _⟩ := h
    rfl
  · obtain ⟨v1, a, rfl, g1, m, k⟩ := h
    have hr1 : Room 1 _ := hr.mono (by decide)
    have rs : Raises (cxOf (L2N.CX P w) P w K mg base nSwapping "swapping" (defScope sSwapping) f cdv A outer s H E) (.ref C) := raises_own PE_.ox.exC PE_.ox.tyC
    refine ⟨_, (pss_cons (ps_expr (pe_call GC hr rfl TC.g TC.F.kp TC.b .nil pass0 (pa_cons (pv 0) pa_nil)))
      (pss_cons (ps_if (PW.pt (pw_and (pt_val (pe_call GH hr1 rfl TH.g TH.F.kp TH.b .nil pass0 (pa_cons (pv 0) (pa_cons pe_str pa_nil)))) (pw_and1 (pt_val (pe_call GH hr1 rfl TH.g TH.F.kp TH.b .nil pass0 (pa_cons (pe_ix ix_tup (pv 0) pe_int (fun _ _ => rfl)) (pa_cons pe_str pa_nil))))))) pss_never pss_nil)
      (pss_cons (ps_if (PW.pt (pw_and (pt_val (pe_call GH hr1 rfl TH.g TH.F.kp TH.b .nil pass0 (pa_cons (pv 0) (pa_cons pe_str pa_nil)))) (pw_and1 (pt_val (pe_call GH hr1 rfl TH.g TH.F.kp TH.b .nil pass0 (pa_cons (pe_ix ix_tup (pv 0) pe_int (fun _ _ => rfl)) (pa_cons pe_str pa_nil))))))) pss_never pss_nil)
      (pss_one (XN.ps_raiseE rfl PE_ rs hr1 (L2N.takes_of rfl rfl rfl rfl) (pv 0)))))), ?_⟩
    obtain ⟨da, za⟩ := ty_dep_small a
    have sa := g1.s
    refine ⟨v1, rfl, v1, a, rfl, g1.a, by omega, by omega, fun H1 s1 => ?_⟩
    have t1 := (g1.same s1).a
    have kk := fun d hd => k d H1 s1 hd
    cases a with
    | w z => exact ⟨_, rfl, v1, _, .ov, rfl, t1, false, rfl, iteF ⟨_, rfl, v1, _, .un, rfl, t1, false, rfl, iteF ⟨_, rfl, kk⟩⟩⟩
    | n g x y =>
      cases g with
      | th => exact ⟨_, rfl, v1, _, .ov, rfl, t1, false, rfl, iteF ⟨_, rfl, v1, _, .un, rfl, t1, false, rfl, iteF ⟨_, rfl, kk⟩⟩⟩
      | ov =>
        obtain ⟨q1, xa, ya, rfl, e1, hx, hy⟩ := tyN t1
        exact ⟨_, rfl, .ref q1, _, .ov, rfl, t1, true, rfl, iteT ⟨_, rfl, q1, _, _, _, rfl, rfl, SqT.of e1, atI_nat (j := 1) rfl, xa, _, .un, rfl, hx, false, congrArg V.bl m, iteF ⟨_, rfl, .ref q1, _, .un, rfl, t1, false, rfl, iteF ⟨_, rfl, kk⟩⟩⟩⟩
      | un =>
        obtain ⟨q1, xa, ya, rfl, e1, hx, hy⟩ := tyN t1
        exact ⟨_, rfl, .ref q1, _, .ov, rfl, t1, false, rfl, iteF ⟨_, rfl, .ref q1, _, .un, rfl, t1, true, rfl, iteT ⟨_, rfl, q1, _, _, _, rfl, rfl, SqT.of e1, atI_nat (j := 2) rfl, ya, _, .ov, rfl, hy, false, congrArg V.bl m, iteF ⟨_, rfl, kk⟩⟩⟩⟩
theorem ref_parting {f fc fh : Addr} {fd fdc fdh : FuncData} (T : Top K mg "parting" sParting pParting f fd) (TC : Top K mg "check_kind" sCheckKind pCheckKind fc fdc) (TH : Top K mg "has_sign" sHasSign pHasSign fh fdh)
    (GC : FnOk P w K mg base CX0 3 fc fdc pCheckKind spCheckKindT) (GH : FnOk P w K mg base CX0 1 fh fdh pHasSign spHasSign) (PE_ : K1.ErrC K mg "Refused" C fI) : FnOk P w K mg base (L2N.CX P w) 4 f fd pParting (spRef1 Ty.bound C) := by
  refine T.F.okXN scParting (fun vs H Q E h => ?_) (fun cdv A outer s H vs Q E hr h => ?_)
  · obtain ⟨_, _, rfl, _⟩ := h
    rfl
  · obtain ⟨v1, a, rfl, g1, m, k⟩ := h
    have hr1 : Room 1 _ := hr.mono (by decide)
    have rs : Raises (cxOf (L2N.CX P w) P w K mg base nParting "parting" (defScope sParting) f cdv A outer s H E) (.ref C) := raises_own PE_.ox.exC PE_.ox.tyC
    refine ⟨_, (pss_cons (ps_expr (pe_call GC hr rfl TC.g TC.F.kp TC.b .nil pass0 (pa_cons (pv 0) pa_nil)))
      (pss_cons (ps_if (PW.pt (pw_and (pt_val (pe_call GH hr1 rfl TH.g TH.F.kp TH.b .nil pass0 (pa_cons (pv 0) (pa_cons pe_str pa_nil)))) (pw_and1 (pt_val (pe_call GH hr1 rfl TH.g TH.F.kp TH.b .nil pass0 (pa_cons (pe_ix ix_tup (pv 0) pe_int (fun _ _ => rfl)) (pa_cons pe_str pa_nil))))))) pss_never pss_nil)
      (pss_cons (ps_if (PW.pt (pw_and (pt_val (pe_call GH hr1 rfl TH.g TH.F.kp TH.b .nil pass0 (pa_cons (pv 0) (pa_cons pe_str pa_nil)))) (pw_and1 (pt_val (pe_call GH hr1 rfl TH.g TH.F.kp TH.b .nil pass0 (pa_cons (pe_ix ix_tup (pv 0) pe_int (fun _ _ => rfl)) (pa_cons pe_str pa_nil))))))) pss_never pss_nil)
      (pss_one (XN.ps_raiseE rfl PE_ rs hr1 (L2N.takes_of rfl rfl rfl rfl) (pv 0)))))), ?_⟩
    obtain ⟨da, za⟩ := ty_dep_small a
    have sa := g1.s
    refine ⟨v1, rfl, v1, a, rfl, g1.a, by omega, by omega, fun H1 s1 => ?_⟩
    have t1 := (g1.same s1).a
    have kk := fun d hd => k d H1 s1 hd
    cases a with
    | w z => exact ⟨_, rfl, v1, _, .ov, rfl, t1, false, rfl, iteF ⟨_, rfl, v1, _, .un, rfl, t1, false, rfl, iteF ⟨_, rfl, kk⟩⟩⟩
    | n g x y =>
      cases g with
      | th => exact ⟨_, rfl, v1, _, .ov, rfl, t1, false, rfl, iteF ⟨_, rfl, v1, _, .un, rfl, t1, false, rfl, iteF ⟨_, rfl, kk⟩⟩⟩
      | ov =>
        obtain ⟨q1, xa, ya, rfl, e1, hx, hy⟩ := tyN t1
        exact ⟨_, rfl, .ref q1, _, .ov, rfl, t1, true, rfl, iteT ⟨_, rfl, q1, _, _, _, rfl, rfl, SqT.of e1, atI_nat (j := 2) rfl, ya, _, .th, rfl, hy, false, congrArg V.bl m, iteF ⟨_, rfl, .ref q1, _, .un, rfl, t1, false, rfl, iteF ⟨_, rfl, kk⟩⟩⟩⟩
      | un =>
        obtain ⟨q1, xa, ya, rfl, e1, hx, hy⟩ := tyN t1
        exact ⟨_, rfl, .ref q1, _, .ov, rfl, t1, false, rfl, iteF ⟨_, rfl, .ref q1, _, .un, rfl, t1, true, rfl, iteT ⟨_, rfl, q1, _, _, _, rfl, rfl, SqT.of e1, atI_nat (j := 1) rfl, xa, _, .th, rfl, hx, false, congrArg V.bl m, iteF ⟨_, rfl, kk⟩⟩⟩⟩
theorem ref_packing {f fc fh : Addr} {fd fdc fdh : FuncData} (T : Top K mg "packing" sPacking pPacking f fd) (TC : Top K mg "check_kind" sCheckKind pCheckKind fc fdc) (TH : Top K mg "has_sign" sHasSign pHasSign fh fdh)
    (GC : FnOk P w K mg base CX0 3 fc fdc pCheckKind spCheckKindT) (GH : FnOk P w K mg base CX0 1 fh fdh pHasSign spHasSign) (PE_ : K1.ErrC K mg "Refused" C fI) : FnOk P w K mg base (L2N.CX P w) 4 f fd pPacking (spRef1 Ty.packs C) := by
  refine T.F.okXN scPacking (fun vs H Q E h => ?_) (fun cdv A outer s H vs Q E hr h => ?_)
  · obtain ⟨_, _, rfl, _⟩ := h
    rfl
  · obtain ⟨v1, a, rfl, g1, m, k⟩ := h
    have hr1 : Room 1 _ := hr.mono (by decide)
    have rs : Raises (cxOf (L2N.CX P w) P w K mg base nPacking "packing" (defScope sPacking) f cdv A outer s H E) (.ref C) := raises_own PE_.ox.exC PE_.ox.tyC
    refine ⟨_, (pss_cons (ps_expr (pe_call GC hr rfl TC.g TC.F.kp TC.b .nil pass0 (pa_cons (pv 0) pa_nil)))
      (pss_cons (ps_if (PW.pt (pw_and (pt_val (pe_call GH hr1 rfl TH.g TH.F.kp TH.b .nil pass0 (pa_cons (pv 0) (pa_cons pe_str pa_nil)))) (pw_and1 (pt_val (pe_call GH hr1 rfl TH.g TH.F.kp TH.b .nil pass0 (pa_cons (pe_ix ix_tup (pv 0) pe_int (fun _ _ => rfl)) (pa_cons pe_str pa_nil))))))) pss_never pss_nil)
      (pss_cons (ps_if (PW.pt (pw_and (pt_val (pe_call GH hr1 rfl TH.g TH.F.kp TH.b .nil pass0 (pa_cons (pv 0) (pa_cons pe_str pa_nil)))) (pw_and1 (pt_val (pe_call GH hr1 rfl TH.g TH.F.kp TH.b .nil pass0 (pa_cons (pe_ix ix_tup (pv 0) pe_int (fun _ _ => rfl)) (pa_cons pe_str pa_nil))))))) pss_never pss_nil)
      (pss_one (XN.ps_raiseE rfl PE_ rs hr1 (L2N.takes_of rfl rfl rfl rfl) (pv 0)))))), ?_⟩
    obtain ⟨da, za⟩ := ty_dep_small a
    have sa := g1.s
    refine ⟨v1, rfl, v1, a, rfl, g1.a, by omega, by omega, fun H1 s1 => ?_⟩
    have t1 := (g1.same s1).a
    have kk := fun d hd => k d H1 s1 hd
    cases a with
    | w z => exact ⟨_, rfl, v1, _, .ov, rfl, t1, false, rfl, iteF ⟨_, rfl, v1, _, .un, rfl, t1, false, rfl, iteF ⟨_, rfl, kk⟩⟩⟩
    | n g x y =>
      cases g with
      | th => exact ⟨_, rfl, v1, _, .ov, rfl, t1, false, rfl, iteF ⟨_, rfl, v1, _, .un, rfl, t1, false, rfl, iteF ⟨_, rfl, kk⟩⟩⟩
      | ov =>
        obtain ⟨q1, xa, ya, rfl, e1, hx, hy⟩ := tyN t1
        exact ⟨_, rfl, .ref q1, _, .ov, rfl, t1, true, rfl, iteT ⟨_, rfl, q1, _, _, _, rfl, rfl, SqT.of e1, atI_nat (j := 1) rfl, xa, _, .ov, rfl, hx, false, congrArg V.bl m, iteF ⟨_, rfl, .ref q1, _, .un, rfl, t1, false, rfl, iteF ⟨_, rfl, kk⟩⟩⟩⟩
      | un =>
        obtain ⟨q1, xa, ya, rfl, e1, hx, hy⟩ := tyN t1
        exact ⟨_, rfl, .ref q1, _, .ov, rfl, t1, false, rfl, iteF ⟨_, rfl, .ref q1, _, .un, rfl, t1, true, rfl, iteT ⟨_, rfl, q1, _, _, _, rfl, rfl, SqT.of e1, atI_nat (j := 2) rfl, ya, _, .un, rfl, hy, false, congrArg V.bl m, iteF ⟨_, rfl, kk⟩⟩⟩⟩
end
end Q4

namespace KT
open PySem PySem.Spec PyProof.Rows L2
/-! ### d == {} -/
def rEqD0 : R2 := fun x y H Q => ∃ a b ks, x = .ref a ∧ y = .ref b ∧ H a = some (.dK ks) ∧ H b = some (.dK []) ∧ Q (.bl ks.isEmpty) H
theorem op_eq_dict0 {X : Cx} (hu : X.A.units < cLine) : OpR X (compareOp .Eq) rEqD0 := by
  intro pins s σ H x y v u Q I rx ry h
  obtain ⟨a, b, ks, rfl, rfl, ea, eb, q⟩ := h
  obtain rfl : v = Value.ref a := rx
  obtain rfl : u = Value.ref b := ry
  obtain ⟨_, ya, va, ra, da⟩ := (show ObjOk X.prog X.w H s.heap a (.dK ks) from I.hok a _ ea)
  obtain ⟨_, yb, vb, rb, db⟩ := (show ObjOk X.prog X.w H s.heap b (.dK []) from I.hok b _ eb)
  have la : ks.length = va.length := Paired.length ra
  have lb : vb = [] := List.eq_nil_of_length_eq_zero (Paired.length rb).symm
  subst lb
  refine PySem.W.keq_eq (knd := mixKind X.prog X.w) (r := true) ya yb da db hu (fun hl => ?_) (fin_bl I q ?_)
  · have : va = [] := List.eq_nil_of_length_eq_zero hl
    subst this
    exact .nil
  · cases ks with
    | nil =>
      have : va = [] := List.eq_nil_of_length_eq_zero la.symm
      subst this
      rfl
    | cons p r =>
      cases va with
      | nil => cases la
      | cons _ _ => rfl
/-! ### xs == [] -/
def rEqL0 (K : PySem.W.Frag) : R2 := fun x y H Q => ∃ a b xs, x = .ref a ∧ y = .ref b ∧ SqL K H a xs ∧ SqL K H b [] ∧ Q (.bl xs.isEmpty) H
theorem op_eq_list0 {X : Cx} (hu : X.A.units < cLine) : OpR X (compareOp .Eq) (rEqL0 X.K) := by
  intro pins s σ H x y v u Q I rx ry h
  obtain ⟨a, b, xs, rfl, rfl, ea, eb, q⟩ := h
  obtain rfl : v = Value.ref a := rx
  obtain rfl : u = Value.ref b := ry
  obtain ⟨its, rv, pl, hz⟩ := I.list ea
  obtain ⟨its2, rv2, pl2, hz2⟩ := I.list eb
  have l1 := rv.length
  have l2 := rv2.length
  cases xs with
  | nil =>
    refine SeqAt.eq_listAt (e := fun _ => true) pl.isList pl2.isList ?_ hu (fun j h1 h2 => ?_) (fin_bl I q ?_)
    · simp at l1 l2 ⊢
      omega
    · simp at l1 h1
      omega
    · simp
  | cons p r =>
    refine SeqAt.eq_list_lengthsAt pl.isList pl2.isList ?_ hu (fin_bl I q rfl)
    simp at l1 l2 ⊢
    omega
theorem hu0 {A : Around} {k : Nat} (hr : Room k A) : A.units < cLine := by have := hr.un; omega
/-- dict(..) of pairs, in K's own words -/
def rDictP (K : PySem.W.Frag) : List V → Hp → VK → Prop := fun xs H Q => ∃ (a : Addr) (ps : List Addr) (kvs : List (Key × V)), xs = [.ref a] ∧ SqL K H a (ps.map V.ref) ∧ Paired (fun p kv => SqT K H p [kV kv.1, kv.2]) ps kvs ∧ ∀ p, H p = none → Q (.ref p) (upd H p (.dK (mergeK [] kvs)))
end KT

namespace KT
open PySem PySem.Spec PyProof.Rows L2
/-! ### xs == () -/
def rEqT0 (K : PySem.W.Frag) : R2 := fun x y H Q => ∃ a b xs, x = .ref a ∧ y = .ref b ∧ SqT K H a xs ∧ SqT K H b [] ∧ Q (.bl xs.isEmpty) H
theorem op_eq_tup0 {X : Cx} (hu : X.A.units < cLine) : OpR X (compareOp .Eq) (rEqT0 X.K) := by
  intro pins s σ H x y v u Q I rx ry h
  obtain ⟨a, b, xs, rfl, rfl, ea, eb, q⟩ := h
  obtain rfl : v = Value.ref a := rx
  obtain rfl : u = Value.ref b := ry
  obtain ⟨its, rv, pl, hz⟩ := I.tuple ea
  obtain ⟨its2, rv2, pl2, hz2⟩ := I.tuple eb
  have l1 := rv.length
  have l2 := rv2.length
  obtain rfl : its2 = [] := List.length_eq_zero_iff.mp (by simpa using l2.symm)
  refine SeqAt.eq_tupleAt (e := fun _ => true) pl pl2 hu (fun j h1 h2 => absurd h2 (by simp)) (fin_bl I q ?_)
  cases xs with
  | nil =>
    obtain rfl : its = [] := List.length_eq_zero_iff.mp (by simpa using l1.symm)
    simp
  | cons p r =>
    cases its with
    | nil => simp at l1
    | cons _ _ => simp
end KT

namespace KT
open PySem PySem.Spec PyProof.Rows L2 SeqAt XO
/-! ### any value == a text -/
section
variable {A : Around} {s : Shared}
theorem rc_dict_str {l : Addr} {es : Array DictEntry} {ep : _} {dd : Option Addr} {sl : Array (Option Value)} (b : Str) (u : Tok) (ho : s.heap.get? l = some { cls := .type "dict", dict := dd, data := .dict es ep, slots := sl }) (hu : A.units < cLine) : RcAt A s (.ref l) (.str b u) false := fun prog w E Q h =>
  rc_eq_decline_or (k := false) ⟨_, ho, rfl⟩ (typeIs_str s b u) (by decide) F.sub_str_dict F.slot_dict_eq F.slot_str_eq_refl
    (fun _ hq => call_meets F.slot_dict_eq ⟨_, ho, rfl⟩ F.entry_dict_eq (F.args_dict_eq_2 _ _) (dict_eq_declines_str l es ep dd sl b u) ⟨ho, hq⟩)
    (fun _ hq => call_meets F.slot_str_eq_refl (typeIs_str s b u) F.entry_str_eq (F.args_str_eq_2 _ _) (str_eq_declines_dict b u l (.type "dict") es ep dd sl) ⟨ho, hq⟩)
    (fun _ hq => wpAny_of_eq (rfl : isSame (.ref l) (.str b u) = pure false) hq) (.inr hu) h
end
def rEqA (K : PySem.W.Frag) : R2 := fun x y H Q => ∃ z, y = .str z ∧ AnyV K H x ∧ Q (.bl (hasT [z] x)) H
theorem op_eqAny {X : Cx} (hu : X.A.units < cLine) : OpR X (compareOp .Eq) (rEqA X.K) := by
  intro pins s σ H x y v u Q I rx ry h
  obtain ⟨b, rfl, hx, q⟩ := h
  obtain ⟨t, rfl⟩ := (show ∃ t, u = Value.str b t from ry)
  show wpAny _ _ (richCompare .Eq v (.str b t)) _ _ _
  have fin : ∀ k, k = hasT [b] x → EP X pins σ Q (.bool k) s := fun k e => ⟨.bl k, H, I, rfl, by rw [e]; exact q⟩
  cases hx with
  | str z =>
    obtain ⟨t', rfl⟩ := (show ∃ t, v = Value.str z t from rx)
    refine RcAt.str_str z t' b t _ _ _ _ (fin _ ?_)
    show (z == b) = decide (z ∈ [b])
    rw [Bool.eq_iff_iff, decide_eq_true_eq, beq_iff_eq, List.mem_singleton]
  | int i =>
    obtain ⟨t', rfl⟩ := (show ∃ t, v = Value.int i t from rx)
    exact RcAt.int_str i t' b t _ _ _ _ (fin _ rfl)
  | bl c =>
    cases rx
    exact RcAt.bool_str c b t _ _ _ _ (fin _ rfl)
  | non =>
    cases rx
    exact RcAt.none_str b t _ _ _ _ (fin _ rfl)
  | @box a hb =>
    cases rx
    rcases hb with ⟨xs, h⟩ | ⟨xs, h⟩ | ⟨kvs, h⟩ | ⟨kvs, h⟩
    · obtain ⟨its, r, pl, _⟩ := I.list h
      exact RcAt.list_str b t pl.isList hu _ _ _ _ (fin _ rfl)
    · obtain ⟨its, r, pl, _⟩ := I.tuple h
      exact RcAt.tuple_str b t pl hu _ _ _ _ (fin _ rfl)
    · obtain ⟨_, _, vs, _, o, es, ep, e, x, d, _⟩ := (show ObjOk X.prog X.w H s.heap a (.dK kvs) from I.hok a _ h)
      obtain ⟨c, dd, dt, sl⟩ := o
      simp only at d
      subst d
      obtain rfl : c = .type "dict" := x.1
      exact rc_dict_str b t e hu _ _ _ _ (fin _ rfl)
    · obtain ⟨_, _, vs, _, o, es, ep, e, x, d, _⟩ := (show ObjOk X.prog X.w H s.heap a (.dT kvs) from I.hok a _ h)
      obtain ⟨c, dd, dt, sl⟩ := o
      simp only at d
      subst d
      obtain rfl : c = .type "dict" := x.1
      exact rc_dict_str b t e hu _ _ _ _ (fin _ rfl)
end KT

namespace Q4
open PySem PySem.Spec PyProof.Rows L2 NdefX LamX KT
open PySem.W (Frag)
theorem any_of {K : Frag} {H : Hp} {v : V} {x : O} (h : OAt H v x) : XO.AnyV K H v := by
  cases h with
  | s _ => exact .str _
  | i _ => exact .int _
  | b _ => exact .bl _
  | o => exact .non
  | t e _ => exact .box (.inr (.inl ⟨_, SqT.of e⟩))
  | l e _ => exact .box (.inl ⟨_, SqL.of e⟩)
  | d e _ => exact .box (.inr (.inr (.inl ⟨_, e⟩)))
section
variable {P : Program} {w : World} {K : Frag} {mg : Str → Option Value} {base : Heap} {C fI : Addr}
def spRefW (C : Addr) : Sp := fun vs H Q E => ∃ v u y a b x, vs = [v, u, y] ∧ GoodK H v a ∧ GoodK H u b ∧ OAt H y x ∧ XO.hasT ["over"] y = false ∧ XO.hasT ["under"] y = false ∧ Err1 C y H E
theorem ref_raising {f fc : Addr} {fd fdc : FuncData} (T : Top K mg "raising" sRaising pRaising f fd) (TC : Top K mg "check_kind" sCheckKind pCheckKind fc fdc)
    (GC : FnOk P w K mg base CX0 3 fc fdc pCheckKind spCheckKindT) (PE_ : K1.ErrC K mg "InvalidWord" C fI) : FnOk P w K mg base (L2N.CX P w) 4 f fd pRaising (spRefW C) := by
  refine T.F.okXN scRaising (fun vs H Q E h => ?_) (fun cdv A outer s H vs Q E hr h => ?_)
  · obtain ⟨_, _, _, _, _, _, rfl, _⟩ := h
    rfl
  · obtain ⟨v1, v2, y, a, b, x, rfl, g1, g2, hy, m1, m2, k⟩ := h
    have hr1 : Room 1 _ := hr.mono (by decide)
    have hu : (A.deeper (envOfC "raising" (defScope sRaising) s.heap.objs.size f cdv)).units < cLine := Nat.lt_of_succ_lt (hu_of hr)
    have rs : Raises (cxOf (L2N.CX P w) P w K mg base nRaising "raising" (defScope sRaising) f cdv A outer s H E) (.ref C) := raises_own PE_.ox.exC PE_.ox.tyC
    refine ⟨_, (pss_cons (ps_expr (pe_call GC hr rfl TC.g TC.F.kp TC.b .nil pass0 (pa_cons (pv 0) pa_nil)))
      (pss_cons (ps_expr (pe_call GC hr rfl TC.g TC.F.kp TC.b .nil pass0 (pa_cons (pv 1) pa_nil)))
      (pss_cons (ps_if (pt_cmpR (op_eqAny hu) (pv 2) pe_str (nomark _)) pss_never pss_nil)
      (pss_cons (ps_if (pt_cmpR (op_eqAny hu) (pv 2) pe_str (nomark _)) pss_never pss_nil)
      (pss_one (XN.ps_raiseE rfl PE_ rs hr1 (L2N.takes_of rfl rfl rfl rfl) (pv 2))))))), ?_⟩
    obtain ⟨da, za⟩ := ty_dep_small a
    obtain ⟨db, zb⟩ := ty_dep_small b
    have sa := g1.s
    have sb := g2.s
    refine ⟨v1, rfl, v1, a, rfl, g1.a, by omega, by omega, fun H1 s1 => ⟨v2, rfl, v2, b, rfl, (g2.same s1).a, by omega, by omega, fun H2 s2 => ?_⟩⟩
    have hy2 := any_of (K := K) (hy.same (s1.trans s2))
    exact ⟨y, rfl, _, rfl, hy2, false, congrArg V.bl m1, iteF ⟨y, rfl, _, rfl, hy2, false, congrArg V.bl m2, iteF ⟨_, rfl, fun d hd => k d H2 (s1.trans s2) hd⟩⟩⟩
end
end Q4

namespace HX
open PySem PySem.Spec PyProof.Rows L2 KT HotX RZ
open PySem.W (Frag)
/-! ### iterators' ends while an error is handled -/
section
variable {prog : Program} {w : World} {A : Around} {E : Value → Shared → Prop} {s : Shared}
theorem hot_keep {A : Around} {x1 : Addr} {h h' : Heap} (hot : HotAt A x1 h) (k : ∀ o, h.get? x1 = some o → h'.get? x1 = some o) : HotAt A x1 h' := by
  obtain ⟨hh, o1, vs1, h1, d1, c1⟩ := hot
  exact ⟨hh, o1, vs1, k _ h1, d1, c1⟩
/-- the end is told by a StopIteration -/
theorem stop_hot {α : Type} {x1 : Addr} {Q : α → Shared → Prop} (hot : HotAt A x1 s.heap)
    (hE : ∀ h' e, (∀ b o, s.heap.get? b = some o → h'.get? b = some o) → (∃ o, h'.get? e = some o ∧ o.cls = .type "StopIteration") → E (.ref e) { s with heap := h' }) :
    wpAny (model prog w) A (newExc (.type "StopIteration") [] >>= fun e => (raiseNew e : Sem α)) Q E s := by
  obtain ⟨hh, o1, vs1, h1, d1, c1⟩ := hot
  refine wpAny_bind ?_
  simp only [newExc, newTuple]
  refine wpAny_bind (wpAny_newObj_type ?_ (by size_fits))
  refine wpAny_bind (m := firstArgMember _ _) (wpAny_of_eq (a := Value.none) (by first | rfl | (simp only [firstArgMember]; rfl)) ?_)
  refine wpAny_newObj_type ?_ (by size_fits)
  refine raiseNew_hot ⟨hh, o1, vs1, Heap.get?_push_of_some _ (Heap.get?_push_of_some _ h1), d1, c1⟩ (Nat.ne_of_lt (Heap.lt_size (Heap.get?_push_of_some _ h1))) (Heap.get?_push_size _ rfl) rfl (by first | (simp; done) | (simp; omega) | (simp only [Array.size_append]; simp; omega)) ?_
  refine hE _ _ (fun b o e => ?_) ⟨_, Heap.get?_update_self _ (Heap.get?_push_size _ rfl) rfl, rfl⟩
  rw [Heap.get?_update_other _ _ (Nat.ne_of_gt (Heap.lt_size (Heap.get?_push_of_some _ e)))]
  exact Heap.get?_push_of_some _ (Heap.get?_push_of_some _ e)
theorem set_ext {h : Heap} {it : Addr} {f : Obj → Obj} {h' : Heap} (k : ∀ b o, (h.update it f).get? b = some o → h'.get? b = some o) : Heap.ExtBut it h h' := fun b o hb e => k b o ((Heap.get?_update_other _ _ (Ne.symm hb)).trans e)
theorem list_end_hot {it l x1 : Addr} {i : Nat} {items} {Q : Option Value → Shared → Prop} (hot : HotAt A x1 s.heap)
    (hit : s.heap.IsListIter it l i) (hl : s.heap.IsList l items) (hx : items[i]? = none) (nx : x1 ≠ it)
    (hQ : ∀ h', Heap.ExtBut it s.heap h' → Q none { s with heap := h' }) : wpAny (model prog w) A (pyNext (.ref it)) Q E s := by
  obtain ⟨o, ho, hc, hd⟩ := id hit
  obtain ⟨ol, hol, _, nl, hdl⟩ := hl
  unfold pyNext
  refine wpAny_bind (wpAny_attempt (wpAny_callSpecial?_slot (name := Str.ofString "__next__") hit.typeIs slot_listiter_next
    (wpAny_call_entry slot_listiter_next hit.typeIs entry_listiter_next ?_ (args_listiter_next _))))
  show wpAny _ _ (field (.ref it) 0 >>= _) _ _ s
  refine wpAny_bind (wpAny_field ho hd (x := .ref l) rfl ?_)
  show wpAny _ _ (if (Value.ref l == Value.none) = true then _ else _) _ _ s
  rw [if_neg (show ¬ ((Value.ref l == Value.none) = true) from Bool.false_ne_true)]
  show wpAny _ _ (field (.ref it) 1 >>= _) _ _ s
  refine wpAny_bind (wpAny_field ho hd (x := .int i 0) rfl ?_)
  show wpAny _ _ (seqItems? (.ref l) >>= _) _ _ s
  refine wpAny_bind (wpAny_seqItems hol hdl ?_)
  simp only [Int.toNat_natCast, hx]
  refine wpAny_bind (wpAny_rule (wpAny_bind (wpAny_setField ho hd (by simp) ?_)))
  refine stop_hot (x1 := x1) (hot_keep hot fun o e => (Heap.get?_update_other _ _ nx.symm).trans e) fun h' e k ⟨oe, ge, ce⟩ => ?_
  refine wpAny_bind (wpAny_isInstance (T := "StopIteration") (b := true) ⟨_, ge, ce⟩ isSubtype_stop ?_)
  exact wpAny_pure (hQ _ (set_ext k))
theorem nextOf_list_end_hot {it l x1 : Addr} {i : Nat} {items} {Q : Value → Shared → Prop} (hot : HotAt A x1 s.heap)
    (hit : s.heap.IsListIter it l i) (hl : s.heap.IsList l items) (hx : items[i]? = none) (nx : x1 ≠ it)
    (hE : ∀ h' e, Heap.ExtBut it s.heap h' → (∃ o, h'.get? e = some o ∧ o.cls = .type "StopIteration") → E (.ref e) { s with heap := h' }) :
    wpAny (model prog w) A (Builtin.SmallTypes.nextOf (.ref it)) Q E s := by
  obtain ⟨o, ho, hc, hd⟩ := id hit
  obtain ⟨ol, hol, _, nl, hdl⟩ := hl
  unfold Builtin.SmallTypes.nextOf
  refine wpAny_bind (wpAny_callSpecial?_slot (name := Str.ofString "__next__") hit.typeIs slot_listiter_next
    (wpAny_call_entry slot_listiter_next hit.typeIs entry_listiter_next ?_ (args_listiter_next _)))
  show wpAny _ _ (field (.ref it) 0 >>= _) _ _ s
  refine wpAny_bind (wpAny_field ho hd (x := .ref l) rfl ?_)
  show wpAny _ _ (if (Value.ref l == Value.none) = true then _ else _) _ _ s
  rw [if_neg (show ¬ ((Value.ref l == Value.none) = true) from Bool.false_ne_true)]
  show wpAny _ _ (field (.ref it) 1 >>= _) _ _ s
  refine wpAny_bind (wpAny_field ho hd (x := .int i 0) rfl ?_)
  show wpAny _ _ (seqItems? (.ref l) >>= _) _ _ s
  refine wpAny_bind (wpAny_seqItems hol hdl ?_)
  simp only [Int.toNat_natCast, hx]
  refine wpAny_bind (wpAny_rule (wpAny_bind (wpAny_setField ho hd (by simp) ?_)))
  exact stop_hot (x1 := x1) (hot_keep hot fun o e => (Heap.get?_update_other _ _ nx.symm).trans e) fun h' e k q => hE _ _ (set_ext k) q
theorem zipList_end_hot {z TI TO i1 i2 l1 l2 x1 : Addr} {k1 k2 : Nat} {xs ys : Array Value} {a b : Value} {Q : Option Value → Shared → Prop} (hot : HotAt A x1 s.heap) (nz : x1 ≠ z) (nO : x1 ≠ TO) (n1 : x1 ≠ i1) (n2 : x1 ≠ i2) (D : ZipApart z TI TO i1 i2 l1 l2)
    (hz : IsZip s.heap z TI TO .none) (hTI : IsPair s.heap TI (.ref i1) (.ref i2)) (hTO : IsPair s.heap TO a b)
    (h1 : s.heap.IsListIter i1 l1 k1) (h2 : s.heap.IsListIter i2 l2 k2) (hl1 : s.heap.IsList l1 xs) (hl2 : s.heap.IsList l2 ys) (hend : xs[k1]? = none ∨ ys[k2]? = none)
    (hQ : ∀ h', (∀ c o, c ≠ z → c ≠ TO → c ≠ i1 → c ≠ i2 → s.heap.get? c = some o → h'.get? c = some o) → Q none { s with heap := h' }) : wpAny (model prog w) A (pyNext (.ref z)) Q E s := by
  have hT : s.TypeIs (.ref z) "zip" := ⟨_, hz, rfl⟩
  have fin : ∀ (h' : Heap) (e : Addr), (∀ c o, c ≠ z → c ≠ TO → c ≠ i1 → c ≠ i2 → s.heap.get? c = some o → h'.get? c = some o) → (∃ o, h'.get? e = some o ∧ o.cls = .type "StopIteration") →
      wpAny (model prog w) A (do if (← isInstance (.ref e) (.type "StopIteration")) then pure none else throw (.ref e)) Q E { s with heap := h' } := fun h' e k ⟨o, ho, hc⟩ => by
    refine wpAny_bind (wpAny_isInstance (T := "StopIteration") (b := true) ⟨o, ho, hc⟩ isSubtype_stop ?_)
    exact wpAny_pure (hQ _ k)
  unfold pyNext
  refine wpAny_bind (wpAny_attempt (wpAny_callSpecial?_slot (name := Str.ofString "__next__") hT F.slot_zip_next
    (wpAny_call_entry F.slot_zip_next hT F.entry_zip_next ?_ (F.args_zip_next_1 _))))
  show wpAny _ _ (field (.ref z) 2 >>= _) _ _ _
  refine wpAny_bind (wpAny_field hz rfl (x := .bool false) rfl ?_)
  show wpAny _ _ (field (.ref z) 3 >>= _) _ _ _
  refine wpAny_bind (wpAny_field hz rfl (x := .ref TI) rfl ?_)
  refine wpAny_bind (wpAny_seqItems hTI rfl ?_)
  show wpAny _ _ (Builtin.SmallTypes.ownedTupleIsFree (.ref z) >>= _) _ _ _
  refine wpAny_bind ?_
  unfold Builtin.SmallTypes.ownedTupleIsFree
  refine wpAny_bind (wpAny_field hz rfl (x := .none) rfl (wpAny_pure ?_))
  simp only [if_true]
  refine wpAny_bind (wpAny_rule ?_)
  refine wpAny_bind (wpAny_field hz rfl (x := .ref TO) rfl ?_)
  refine wpAny_bind (wpAny_setField_rec hz (by simp) fun g1 hz1 s1 => ?_)
  replace hz1 : IsZip g1 z TI TO .ellipsis := hz1
  refine wpAny_bind ?_
  simp only [List.zipIdx_cons, List.zipIdx_nil, List.forIn_cons, List.forIn_nil]
  refine wpAny_bind (wpAny_bind (wpAny_onRaise ?_))
  show wpAny _ _ (Builtin.SmallTypes.nextOf (.ref i1) >>= _) _ _ _
  have hot1 : HotAt A x1 g1 := hot_keep hot (fun o e => s1.extBut _ _ nz e)
  cases hx : xs[k1]? with
  | none =>
    refine wpAny_bind (nextOf_list_end_hot (x1 := x1) hot1 (h1.extBut s1.extBut D.i1z) (hl1.extBut s1.extBut D.l1z) hx n1 fun g2 e s2 ⟨oe, hoe, hce⟩ => ?_)
    have hz2 : IsZip g2 z TI TO .ellipsis := s2 _ _ D.i1z.symm hz1
    have hez : e ≠ z := fun x => by subst x; rw [hz2] at hoe; cases hoe; simp at hce
    exact wpAny_setField_rec hz2 (by simp) fun g3 _ s3 => fin g3 e (fun c o c1 _ c3 _ x => s3.extBut _ _ c1 (s2 _ _ c3 (s1.extBut _ _ c1 x))) ⟨oe, s3.extBut _ _ hez hoe, hce⟩
  | some x =>
    have hy : ys[k2]? = none := by rcases hend with h | h; rw [hx] at h; cases h; exact h
    refine wpAny_bind (wpAny_nextOf_list_item (h1.extBut s1.extBut D.i1z) (hl1.extBut s1.extBut D.l1z) hx fun g2 h12 s2 => wpAny_pure ?_)
    have hTO2 : IsPair g2 TO a b := s2.extBut _ _ D.TOi1 (s1.extBut _ _ D.TOz hTO)
    refine wpAny_bind (wpAny_seqItems hTO2 rfl ?_)
    refine wpAny_bind (wpAny_updateSeq_pair hTO2 fun g3 hTO3 s3 => ?_)
    refine wpAny_bind (wpAny_letGo (wpAny_pure ?_))
    refine wpAny_bind (wpAny_bind (wpAny_onRaise ?_))
    show wpAny _ _ (Builtin.SmallTypes.nextOf (.ref i2) >>= _) _ _ _
    have hot3 : HotAt A x1 g3 := hot_keep hot1 fun o e => s3.extBut _ _ nO (s2.extBut _ _ n1 e)
    refine wpAny_bind (nextOf_list_end_hot (x1 := x1) hot3 (((h2.extBut s1.extBut D.i2z).extBut s2.extBut D.i12.symm).extBut s3.extBut D.TOi2.symm)
      (((hl2.extBut s1.extBut D.l2z).extBut s2.extBut D.l2i1).extBut s3.extBut D.l2TO) hy n2 fun g4 e s4 ⟨oe, hoe, hce⟩ => ?_)
    have hz4 : IsZip g4 z TI TO .ellipsis := s4 _ _ D.i2z.symm (s3.extBut _ _ D.TOz.symm (s2.extBut _ _ D.i1z.symm hz1))
    have hez : e ≠ z := fun x => by subst x; rw [hz4] at hoe; cases hoe; simp at hce
    exact wpAny_setField_rec hz4 (by simp) fun g5 _ s5 => fin g5 e (fun c o c1 c2 c3 c4 x => s5.extBut _ _ c1 (s4 _ _ c4 (s3.extBut _ _ c2 (s2.extBut _ _ c3 (s1.extBut _ _ c1 x))))) ⟨oe, s5.extBut _ _ hez hoe, hce⟩
theorem nextOf_tuple_end_hot {it l x1 : Addr} {i : Nat} {items} {Q : Value → Shared → Prop} (hot : HotAt A x1 s.heap)
    (hit : s.heap.IsTupleIter it l i) (hl : s.heap.IsTuple l items) (hx : items[i]? = none) (nx : x1 ≠ it)
    (hE : ∀ h' e, Heap.ExtBut it s.heap h' → (∃ o, h'.get? e = some o ∧ o.cls = .type "StopIteration") → E (.ref e) { s with heap := h' }) :
    wpAny (model prog w) A (Builtin.SmallTypes.nextOf (.ref it)) Q E s := by
  obtain ⟨o, ho, hc, hd⟩ := id hit
  obtain ⟨ol, hol, _, nl, hdl⟩ := hl
  unfold Builtin.SmallTypes.nextOf
  refine wpAny_bind (wpAny_callSpecial?_slot (name := Str.ofString "__next__") hit.typeIs F.slot_tuple_iterator_next
    (wpAny_call_entry F.slot_tuple_iterator_next hit.typeIs F.entry_tuple_iterator_next ?_ (F.args_tuple_iterator_next_1 _)))
  show wpAny _ _ (field (.ref it) 0 >>= _) _ _ s
  refine wpAny_bind (wpAny_field ho hd (x := .ref l) rfl ?_)
  show wpAny _ _ (if (Value.ref l == Value.none) = true then _ else _) _ _ s
  rw [if_neg (show ¬ ((Value.ref l == Value.none) = true) from Bool.false_ne_true)]
  show wpAny _ _ (field (.ref it) 1 >>= _) _ _ s
  refine wpAny_bind (wpAny_field ho hd (x := .int i 0) rfl ?_)
  show wpAny _ _ (seqItems? (.ref l) >>= _) _ _ s
  refine wpAny_bind (wpAny_seqItems hol hdl ?_)
  simp only [Int.toNat_natCast, hx]
  refine wpAny_bind (wpAny_rule (wpAny_bind (wpAny_setField ho hd (by simp) ?_)))
  exact stop_hot (x1 := x1) (hot_keep hot fun o e => (Heap.get?_update_other _ _ nx.symm).trans e) fun h' e k q => hE _ _ (set_ext k) q
theorem zipTuple_end_hot {z TI TO i1 i2 l1 l2 x1 : Addr} {k1 k2 : Nat} {xs ys : Array Value} {a b : Value} {Q : Option Value → Shared → Prop} (hot : HotAt A x1 s.heap) (nz : x1 ≠ z) (nO : x1 ≠ TO) (n1 : x1 ≠ i1) (n2 : x1 ≠ i2) (D : ZipApart z TI TO i1 i2 l1 l2)
    (hz : IsZip s.heap z TI TO .none) (hTI : IsPair s.heap TI (.ref i1) (.ref i2)) (hTO : IsPair s.heap TO a b)
    (h1 : s.heap.IsTupleIter i1 l1 k1) (h2 : s.heap.IsTupleIter i2 l2 k2) (hl1 : s.heap.IsTuple l1 xs) (hl2 : s.heap.IsTuple l2 ys) (hend : xs[k1]? = none ∨ ys[k2]? = none)
    (hQ : ∀ h', (∀ c o, c ≠ z → c ≠ TO → c ≠ i1 → c ≠ i2 → s.heap.get? c = some o → h'.get? c = some o) → Q none { s with heap := h' }) : wpAny (model prog w) A (pyNext (.ref z)) Q E s := by
  have hT : s.TypeIs (.ref z) "zip" := ⟨_, hz, rfl⟩
  have fin : ∀ (h' : Heap) (e : Addr), (∀ c o, c ≠ z → c ≠ TO → c ≠ i1 → c ≠ i2 → s.heap.get? c = some o → h'.get? c = some o) → (∃ o, h'.get? e = some o ∧ o.cls = .type "StopIteration") →
      wpAny (model prog w) A (do if (← isInstance (.ref e) (.type "StopIteration")) then pure none else throw (.ref e)) Q E { s with heap := h' } := fun h' e k ⟨o, ho, hc⟩ => by
    refine wpAny_bind (wpAny_isInstance (T := "StopIteration") (b := true) ⟨o, ho, hc⟩ isSubtype_stop ?_)
    exact wpAny_pure (hQ _ k)
  unfold pyNext
  refine wpAny_bind (wpAny_attempt (wpAny_callSpecial?_slot (name := Str.ofString "__next__") hT F.slot_zip_next
    (wpAny_call_entry F.slot_zip_next hT F.entry_zip_next ?_ (F.args_zip_next_1 _))))
  show wpAny _ _ (field (.ref z) 2 >>= _) _ _ _
  refine wpAny_bind (wpAny_field hz rfl (x := .bool false) rfl ?_)
  show wpAny _ _ (field (.ref z) 3 >>= _) _ _ _
  refine wpAny_bind (wpAny_field hz rfl (x := .ref TI) rfl ?_)
  refine wpAny_bind (wpAny_seqItems hTI rfl ?_)
  show wpAny _ _ (Builtin.SmallTypes.ownedTupleIsFree (.ref z) >>= _) _ _ _
  refine wpAny_bind ?_
  unfold Builtin.SmallTypes.ownedTupleIsFree
  refine wpAny_bind (wpAny_field hz rfl (x := .none) rfl (wpAny_pure ?_))
  simp only [if_true]
  refine wpAny_bind (wpAny_rule ?_)
  refine wpAny_bind (wpAny_field hz rfl (x := .ref TO) rfl ?_)
  refine wpAny_bind (wpAny_setField_rec hz (by simp) fun g1 hz1 s1 => ?_)
  replace hz1 : IsZip g1 z TI TO .ellipsis := hz1
  refine wpAny_bind ?_
  simp only [List.zipIdx_cons, List.zipIdx_nil, List.forIn_cons, List.forIn_nil]
  refine wpAny_bind (wpAny_bind (wpAny_onRaise ?_))
  show wpAny _ _ (Builtin.SmallTypes.nextOf (.ref i1) >>= _) _ _ _
  have hot1 : HotAt A x1 g1 := hot_keep hot (fun o e => s1.extBut _ _ nz e)
  cases hx : xs[k1]? with
  | none =>
    refine wpAny_bind (nextOf_tuple_end_hot (x1 := x1) hot1 (h1.extBut s1.extBut D.i1z) (hl1.extBut s1.extBut D.l1z) hx n1 fun g2 e s2 ⟨oe, hoe, hce⟩ => ?_)
    have hz2 : IsZip g2 z TI TO .ellipsis := s2 _ _ D.i1z.symm hz1
    have hez : e ≠ z := fun x => by subst x; rw [hz2] at hoe; cases hoe; simp at hce
    exact wpAny_setField_rec hz2 (by simp) fun g3 _ s3 => fin g3 e (fun c o c1 _ c3 _ x => s3.extBut _ _ c1 (s2 _ _ c3 (s1.extBut _ _ c1 x))) ⟨oe, s3.extBut _ _ hez hoe, hce⟩
  | some x =>
    have hy : ys[k2]? = none := by rcases hend with h | h; rw [hx] at h; cases h; exact h
    refine wpAny_bind (nextOf_tuple_item (h1.extBut s1.extBut D.i1z) (hl1.extBut s1.extBut D.l1z) hx fun g2 h12 s2 => wpAny_pure ?_)
    have hTO2 : IsPair g2 TO a b := s2.extBut _ _ D.TOi1 (s1.extBut _ _ D.TOz hTO)
    refine wpAny_bind (wpAny_seqItems hTO2 rfl ?_)
    refine wpAny_bind (wpAny_updateSeq_pair hTO2 fun g3 hTO3 s3 => ?_)
    refine wpAny_bind (wpAny_letGo (wpAny_pure ?_))
    refine wpAny_bind (wpAny_bind (wpAny_onRaise ?_))
    show wpAny _ _ (Builtin.SmallTypes.nextOf (.ref i2) >>= _) _ _ _
    have hot3 : HotAt A x1 g3 := hot_keep hot1 fun o e => s3.extBut _ _ nO (s2.extBut _ _ n1 e)
    refine wpAny_bind (nextOf_tuple_end_hot (x1 := x1) hot3 (((h2.extBut s1.extBut D.i2z).extBut s2.extBut D.i12.symm).extBut s3.extBut D.TOi2.symm)
      (((hl2.extBut s1.extBut D.l2z).extBut s2.extBut D.l2i1).extBut s3.extBut D.l2TO) hy n2 fun g4 e s4 ⟨oe, hoe, hce⟩ => ?_)
    have hz4 : IsZip g4 z TI TO .ellipsis := s4 _ _ D.i2z.symm (s3.extBut _ _ D.TOz.symm (s2.extBut _ _ D.i1z.symm hz1))
    have hez : e ≠ z := fun x => by subst x; rw [hz4] at hoe; cases hoe; simp at hce
    exact wpAny_setField_rec hz4 (by simp) fun g5 _ s5 => fin g5 e (fun c o c1 c2 c3 c4 x => s5.extBut _ _ c1 (s4 _ _ c4 (s3.extBut _ _ c2 (s2.extBut _ _ c3 (s1.extBut _ _ c1 x))))) ⟨oe, s5.extBut _ _ hez hoe, hce⟩
theorem keys_end_hot {it d x1 : Addr} {i ep : Nat} {es : Array DictEntry} {Q : Option Value → Shared → Prop} (hot : HotAt A x1 s.heap) (nx : x1 ≠ it) (hit : s.heap.IsKeyIter it d i es.size ep)
    (hm : s.heap.DictRaw d es ep) (hge : es.size ≤ i)
    (hQ : ∀ h', Heap.ExtBut it s.heap h' → Q none { s with heap := h' }) : wpAny (model prog w) A (pyNext (.ref it)) Q E s := by
  obtain ⟨o, ho, hc, hd⟩ := id hit
  obtain ⟨od, hod, hcd, hdd⟩ := id hm
  unfold pyNext
  refine wpAny_bind (wpAny_attempt (wpAny_callSpecial?_slot (name := Str.ofString "__next__") hit.typeIs F.slot_dict_keyiterator_next
    (wpAny_call_entry F.slot_dict_keyiterator_next hit.typeIs F.entry_dict_keyiterator_next ?_ (F.args_dict_keyiterator_next_1 _))))
  refine wpAny_bind (wpAny_pure ?_)
  refine wpAny_bind (wpAny_bind ?_)
  first | refine wpAny_bind (wpAny_typeNameOfWhole_keyiter hit.typeIs (wpAny_pure ?_)) | refine wpAny_bind (wpAny_typeNameOf_keyiter hit.typeIs (wpAny_pure ?_))
  refine wpAny_bind (wpAny_fieldsOf ho hd ?_)
  have hown : Builtin.Dict_items.ownsTuple "dict_keyiterator" = false := by decide
  simp only [hown, Bool.false_eq_true, if_false]
  show wpAny _ _ (if (Value.ref d == Value.none) = true then _ else _) _ _ s
  rw [if_neg (show ¬ ((Value.ref d == Value.none) = true) from Bool.false_ne_true)]
  refine wpAny_bind (wpAny_pure ?_)
  refine wpAny_bind (wpAny_dictEntries hod hdd ?_)
  rw [if_neg (by simp)]
  refine wpAny_bind (wpAny_pure ?_)
  refine wpAny_bind (wpAny_dictEpoch hod hdd ?_)
  rw [if_neg (by simp)]
  refine wpAny_pure ?_
  simp only [show ¬ ((i : Int) < 0) from by omega, if_false, Int.toNat_natCast, Array.getElem?_eq_none hge]
  refine wpAny_bind ?_
  first | refine wpAny_bind (wpAny_typeNameOfWhole_keyiter hit.typeIs (wpAny_pure ?_)) | refine wpAny_bind (wpAny_typeNameOf_keyiter hit.typeIs (wpAny_pure ?_))
  show wpAny _ _ (setField (.ref it) 0 .none >>= _) _ _ s
  refine wpAny_bind (wpAny_setField ho hd (by simp) ?_)
  refine stop_hot (x1 := x1) (hot_keep hot fun o e => (Heap.get?_update_other _ _ nx.symm).trans e) fun h' e k ⟨oe, ge, ce⟩ => ?_
  refine wpAny_bind (wpAny_isInstance (T := "StopIteration") (b := true) ⟨_, ge, ce⟩ isSubtype_stop ?_)
  exact wpAny_pure (hQ _ (set_ext k))
end
end HX

namespace HX
open PySem PySem.Spec PyProof.Rows L2 KT HotX RZ
open PySem.W (Frag)
/-! ### what is walked while an error is handled; the error stands at e, tracked -/
def HotH (e : Addr) (H : Hp) : Prop := ∃ cls d, H e = some (XN.exk e cls d)
theorem HotH.same {e : Addr} {H H' : Hp} (h : HotH e H) (k : Same H H') : HotH e H' := by
  obtain ⟨cls, d, q⟩ := h
  exact ⟨cls, d, k _ _ q⟩
theorem HotH.at_ {e : Addr} {X : Cx} {pins : List (Addr × Obj)} {σ : L2.St} {H : Hp} {s : Shared} (h : HotH e H) (hh : X.A.handled = some (.ref e)) (I : Inv X pins σ H s) : HotAt X.A e s.heap ∧ H e ≠ none := by
  obtain ⟨cls, d, q⟩ := h
  obtain ⟨⟨oe, vs, ho, hz, hdt⟩, _, _⟩ := (show ObjOk X.prog X.w H s.heap e (XN.exk e cls d) from I.hok e _ q)
  exact ⟨⟨hh, oe, vs, ho, hdt, hz.2.2 vs hdt⟩, by rw [q]; simp⟩
/-- an iterator whose end says besides that the error stands -/
def hotIt (e : Addr) (J : It) : It := ⟨J.go, J.yld, fun i H => J.stop i H ∧ HotH e H⟩
theorem walk_hot {e : Addr} {J : It} {n : Nat} {G : Hp → Prop} {Y : Nat → Hp → V → Hp → Prop} (w : Walk J n G Y) : Walk (hotIt e J) n (fun H => G H ∧ HotH e H) Y :=
  ⟨fun i H hi q => w.goes i H hi q.1, fun H q => ⟨w.stops H q.1, q.2⟩, fun i H v H' hi q y => w.yields i H v H' hi q.1 y⟩
structure TurnE (e : Addr) (P : Program) (w : World) (K : Frag) (tg : Expr) (J : It) (fp : List Addr) (it : Addr) (tn : Nat → Heap → Prop) : Prop where
  mem : it ∈ fp
  obj : ∀ i h, tn i h → ∀ b ∈ fp, ∃ o, h.get? b = some o ∧ ∀ v, o.data ≠ .cell v
  keep : ∀ i h h', tn i h → (∀ b ∈ fp, ∀ o, h.get? b = some o → h'.get? b = some o) → tn i h'
  item : ∀ (X : Cx), X.prog = P → X.w = w → X.K = K → X.A.handled = some (.ref e) → ∀ (i : Nat) (pins : List (Addr × Obj)) (s : Shared) (σ : L2.St) (H : Hp) (E : Value → Shared → Prop), Inv X pins σ H s → (∀ b ∈ fp, FpOk X pins H b) → tn i s.heap → J.go i H →
    wpAny (model P w) X.A (pyNext (.ref it)) (fun r s1 => ∃ u, r = some u ∧
      wpAny (model P w) X.A (letOwnedTupleGo tg (.ref it) u) (fun _ s2 => ∃ x H', Inv X pins σ H' s2 ∧ RelV x u ∧ J.yld i H x H' ∧ tn (i + 1) s2.heap ∧ ∀ b ∈ fp, H' b = none) E s1) E s
  done : ∀ (X : Cx), X.prog = P → X.w = w → X.K = K → X.A.handled = some (.ref e) → ∀ (i : Nat) (pins : List (Addr × Obj)) (s : Shared) (σ : L2.St) (H : Hp) (E : Value → Shared → Prop), Inv X pins σ H s → (∀ b ∈ fp, FpOk X pins H b) → tn i s.heap → J.stop i H →
    wpAny (model P w) X.A (pyNext (.ref it)) (fun r s1 => r = none ∧ Inv X pins σ H s1) E s
  self : ∀ (A : Around) (i : Nat) (s : Shared) (Q : Value → Shared → Prop) (E : Value → Shared → Prop), tn i s.heap → Q (.ref it) s → wpAny (model P w) A (pyIter (.ref it)) Q E s
theorem five {P : Addr → Prop} {a b c d x : Addr} (ha : P a) (hb : P b) (hc : P c) (hd : P d) (hx : P x) : ∀ y ∈ [a, b, c, d, x], P y := by
  intro y hy
  have e' : y = a ∨ y = b ∨ y = c ∨ y = d ∨ y = x := by simpa using hy
  rcases e' with q | q | q | q | q <;> rw [q] <;> assumption
theorem turnE_zipList {e : Addr} {P : Program} {w : World} {K : Frag} {elts : List Expr} {kk : Nat} {tpos : Pos} {a b z TI TO i1 i2 : Addr} (D : ZipApart z TI TO i1 i2 a b) :
    TurnE e P w K (.Tuple elts kk tpos) (hotIt e (Itz K a b)) [z, TI, TO, i1, i2] z (fun i h => IsZip h z TI TO .none ∧ IsPair h TI (.ref i1) (.ref i2) ∧ (∃ x y, IsPair h TO x y) ∧ h.IsListIter i1 a i ∧ h.IsListIter i2 b i) where
  mem := List.mem_cons_self
  obj := fun i h st => by
    obtain ⟨hz, hTI, ⟨x, y, hTO⟩, ⟨o1, e1, _, d1⟩, ⟨o2, e2, _, d2⟩⟩ := st
    exact five ⟨_, hz, fun v q => nomatch q⟩ ⟨_, hTI, fun v q => nomatch q⟩ ⟨_, hTO, fun v q => nomatch q⟩ ⟨o1, e1, fun v q => by rw [d1] at q; cases q⟩ ⟨o2, e2, fun v q => by rw [d2] at q; cases q⟩
  keep := fun i h h' st k => by
    obtain ⟨hz, hTI, ⟨x, y, hTO⟩, h1, h2⟩ := st
    exact ⟨k z (by simp) _ hz, k TI (by simp) _ hTI, ⟨x, y, k TO (by simp) _ hTO⟩, h1.at fun o q => k i1 (by simp) o q, h2.at fun o q => k i2 (by simp) o q⟩
  item := by
    intro X hP hw hK _ i pins s σ H E I hf ⟨hz, hTI, ⟨x0, y0, hTO⟩, h1, h2⟩ ⟨xs, ys, x, y, hqx, hqy, hx, hy⟩
    subst hP hw hK
    obtain ⟨its, rv, p, _⟩ := I.list hqx
    obtain ⟨its2, rv2, p2, _⟩ := I.list hqy
    obtain ⟨u, hu, ru⟩ := rv.get hx
    obtain ⟨u2, hu2, ru2⟩ := rv2.get hy
    have lt : ∀ c ∈ [z, TI, TO, i1, i2], c < s.heap.objs.size := by
      obtain ⟨_, e1, _⟩ := id h1
      obtain ⟨_, e2, _⟩ := id h2
      exact five (Heap.lt_size hz) (Heap.lt_size hTI) (Heap.lt_size hTO) (Heap.lt_size e1) (Heap.lt_size e2)
    refine wpAny_pyNext_zip_item D hz hTI hTO h1 h2 p.isList p2.isList (x := u) (y := u2) (by simpa using hu) (by simpa using hu2) fun h' z' TO' h1' h2' hT hsz hk => ?_
    refine ⟨_, rfl, wpAny_letOwnedTupleGo_zip (s := { s with heap := h' }) z' fun h'' z'' sb => ?_⟩
    have hT2 : h''.get? s.heap.objs.size = some { cls := .type "tuple", data := .seq #[u, u2] } := (sb.2 _ (Nat.ne_of_gt (lt z List.mem_cons_self))).trans hT
    have I1 : Inv X pins σ (upd H s.heap.objs.size (.tup [x, y])) { s with heap := h'' } :=
      I.turnedNew (t' := s.toks) (ch := [z, TI, TO, i1, i2]) (fun c o hb q => (sb.2 c (fun q' => hb (by simp [q']))).trans (hk c o (fun q' => hb (by simp [q'])) (fun q' => hb (by simp [q'])) (fun q' => hb (by simp [q'])) (fun q' => hb (by simp [q'])) q)) hf (Nat.le_refl _)
        ⟨by show 2 ≤ sizeLine; decide, [u, u2], .cons ru (.cons ru2 .nil), ⟨_, hT2, rfl, _, rfl⟩⟩
    exact ⟨.ref s.heap.objs.size, _, I1, rfl, ⟨_, x, y, rfl, I.hok.fresh (Nat.le_refl _), rfl, fun l hl => by rw [I.list_inj hl hqx]; exact hx, fun l hl => by rw [I.list_inj hl hqy]; exact hy⟩,
      ⟨z'', (sb.2 _ D.TIz).trans (hk _ _ D.TIz D.TITO D.TIi1 D.TIi2 hTI), ⟨u, u2, (sb.2 _ D.TOz).trans TO'⟩, h1'.at fun o q => (sb.2 _ D.i1z).trans q, h2'.at fun o q => (sb.2 _ D.i2z).trans q⟩,
      fun c hcm => by rw [upd_ne (Nat.ne_of_lt (lt c hcm))]; exact (hf c hcm).1⟩
  done := by
    intro X hP hw hK hh i pins s σ H E I hf ⟨hz, hTI, ⟨x0, y0, hTO⟩, h1, h2⟩ ⟨⟨xs, ys, hqx, hqy, hend⟩, hot⟩
    subst hP hw hK
    obtain ⟨its, rv, p, _⟩ := I.list hqx
    obtain ⟨its2, rv2, p2, _⟩ := I.list hqy
    have l1 := rv.length
    have l2 := rv2.length
    have he : its.toArray[i]? = none ∨ its2.toArray[i]? = none := hend.elim (fun q => .inl (by simp; omega)) fun q => .inr (by simp; omega)
    obtain ⟨ht, hn⟩ := hot.at_ hh I
    have ne : ∀ c ∈ [z, TI, TO, i1, i2], e ≠ c := fun c m q => hn (q ▸ (hf c m).1)
    exact zipList_end_hot ht (ne z (by simp)) (ne TO (by simp)) (ne i1 (by simp)) (ne i2 (by simp)) D hz hTI hTO h1 h2 p.isList p2.isList he fun h' hk => ⟨rfl, I.turnedL (t' := s.toks) (ch := [z, TI, TO, i1, i2]) (fun c o hb q =>
      hk c o (fun q' => hb (by simp [q'])) (fun q' => hb (by simp [q'])) (fun q' => hb (by simp [q'])) (fun q' => hb (by simp [q'])) q) hf⟩
  self := fun A i s Q E st h => wpAny_pyIter_zip st.1 h
theorem turnE_zipTuple {e : Addr} {P : Program} {w : World} {K : Frag} {elts : List Expr} {kk : Nat} {tpos : Pos} {a b z TI TO i1 i2 : Addr} (D : ZipApart z TI TO i1 i2 a b) :
    TurnE e P w K (.Tuple elts kk tpos) (hotIt e (ItzT K a b)) [z, TI, TO, i1, i2] z (fun i h => IsZip h z TI TO .none ∧ IsPair h TI (.ref i1) (.ref i2) ∧ (∃ x y, IsPair h TO x y) ∧ h.IsTupleIter i1 a i ∧ h.IsTupleIter i2 b i) where
  mem := List.mem_cons_self
  obj := fun i h st => by
    obtain ⟨hz, hTI, ⟨x, y, hTO⟩, ⟨o1, e1, _, d1⟩, ⟨o2, e2, _, d2⟩⟩ := st
    exact five ⟨_, hz, fun v q => nomatch q⟩ ⟨_, hTI, fun v q => nomatch q⟩ ⟨_, hTO, fun v q => nomatch q⟩ ⟨o1, e1, fun v q => by rw [d1] at q; cases q⟩ ⟨o2, e2, fun v q => by rw [d2] at q; cases q⟩
  keep := fun i h h' st k => by
    obtain ⟨hz, hTI, ⟨x, y, hTO⟩, h1, h2⟩ := st
    exact ⟨k z (by simp) _ hz, k TI (by simp) _ hTI, ⟨x, y, k TO (by simp) _ hTO⟩, h1.at fun o q => k i1 (by simp) o q, h2.at fun o q => k i2 (by simp) o q⟩
  item := by
    intro X hP hw hK _ i pins s σ H E I hf ⟨hz, hTI, ⟨x0, y0, hTO⟩, h1, h2⟩ ⟨xs, ys, x, y, hqx, hqy, hx, hy⟩
    subst hP hw hK
    obtain ⟨its, rv, p, _⟩ := I.tuple hqx
    obtain ⟨its2, rv2, p2, _⟩ := I.tuple hqy
    obtain ⟨u, hu, ru⟩ := rv.get hx
    obtain ⟨u2, hu2, ru2⟩ := rv2.get hy
    have lt : ∀ c ∈ [z, TI, TO, i1, i2], c < s.heap.objs.size := by
      obtain ⟨_, e1, _⟩ := id h1
      obtain ⟨_, e2, _⟩ := id h2
      exact five (Heap.lt_size hz) (Heap.lt_size hTI) (Heap.lt_size hTO) (Heap.lt_size e1) (Heap.lt_size e2)
    refine pyNext_zipT_item D hz hTI hTO h1 h2 p p2 (x := u) (y := u2) (by simpa using hu) (by simpa using hu2) fun h' z' TO' h1' h2' hT hsz hk => ?_
    refine ⟨_, rfl, wpAny_letOwnedTupleGo_zip (s := { s with heap := h' }) z' fun h'' z'' sb => ?_⟩
    have hT2 : h''.get? s.heap.objs.size = some { cls := .type "tuple", data := .seq #[u, u2] } := (sb.2 _ (Nat.ne_of_gt (lt z List.mem_cons_self))).trans hT
    have I1 : Inv X pins σ (upd H s.heap.objs.size (.tup [x, y])) { s with heap := h'' } :=
      I.turnedNew (t' := s.toks) (ch := [z, TI, TO, i1, i2]) (fun c o hb q => (sb.2 c (fun q' => hb (by simp [q']))).trans (hk c o (fun q' => hb (by simp [q'])) (fun q' => hb (by simp [q'])) (fun q' => hb (by simp [q'])) (fun q' => hb (by simp [q'])) q)) hf (Nat.le_refl _)
        ⟨by show 2 ≤ sizeLine; decide, [u, u2], .cons ru (.cons ru2 .nil), ⟨_, hT2, rfl, _, rfl⟩⟩
    exact ⟨.ref s.heap.objs.size, _, I1, rfl, ⟨_, x, y, rfl, I.hok.fresh (Nat.le_refl _), rfl, fun l hl => by rw [I.tuple_inj hl hqx]; exact hx, fun l hl => by rw [I.tuple_inj hl hqy]; exact hy⟩,
      ⟨z'', (sb.2 _ D.TIz).trans (hk _ _ D.TIz D.TITO D.TIi1 D.TIi2 hTI), ⟨u, u2, (sb.2 _ D.TOz).trans TO'⟩, h1'.at fun o q => (sb.2 _ D.i1z).trans q, h2'.at fun o q => (sb.2 _ D.i2z).trans q⟩,
      fun c hcm => by rw [upd_ne (Nat.ne_of_lt (lt c hcm))]; exact (hf c hcm).1⟩
  done := by
    intro X hP hw hK hh i pins s σ H E I hf ⟨hz, hTI, ⟨x0, y0, hTO⟩, h1, h2⟩ ⟨⟨xs, ys, hqx, hqy, hend⟩, hot⟩
    subst hP hw hK
    obtain ⟨its, rv, p, _⟩ := I.tuple hqx
    obtain ⟨its2, rv2, p2, _⟩ := I.tuple hqy
    have l1 := rv.length
    have l2 := rv2.length
    have he : its.toArray[i]? = none ∨ its2.toArray[i]? = none := hend.elim (fun q => .inl (by simp; omega)) fun q => .inr (by simp; omega)
    obtain ⟨ht, hn⟩ := hot.at_ hh I
    have ne : ∀ c ∈ [z, TI, TO, i1, i2], e ≠ c := fun c m q => hn (q ▸ (hf c m).1)
    exact zipTuple_end_hot ht (ne z (by simp)) (ne TO (by simp)) (ne i1 (by simp)) (ne i2 (by simp)) D hz hTI hTO h1 h2 p p2 he fun h' hk => ⟨rfl, I.turnedL (t' := s.toks) (ch := [z, TI, TO, i1, i2]) (fun c o hb q =>
      hk c o (fun q' => hb (by simp [q'])) (fun q' => hb (by simp [q'])) (fun q' => hb (by simp [q'])) (fun q' => hb (by simp [q'])) q) hf⟩
  self := fun A i s Q E st h => wpAny_pyIter_zip st.1 h
theorem turnE_keys {e : Addr} {P : Program} {w : World} {K : Frag} {tg : Expr} {d : Addr} {o : Obj} {es : Array DictEntry} {ep : Nat} {kvs : List (Key × V)} (it : Addr) (hod : o.data = .dict es ep) : TurnE e P w K tg (hotIt e (Itk d o kvs)) [it] it (fun i h => h.IsKeyIter it d i kvs.length ep) where
  mem := by simp
  obj := fun i h st b hb => by
    have q : b = it := by simpa using hb
    subst q
    obtain ⟨oi, q, c, dd⟩ := st
    exact ⟨oi, q, fun v z => by rw [dd] at z; cases z⟩
  keep := fun i h h' st k => st.at fun oi q => k it (by simp) oi q
  item := by
    intro X hP hw hK _ i pins s σ H E I hf st ⟨hd, hi⟩
    subst hP hw hK
    obtain ⟨f0, f1, f2, f3, f4, f5⟩ := hf it (by simp)
    obtain ⟨hs, hgd, hx, es', ep', vs, hdt, hsz, kv, hm⟩ := I.frzK hd
    obtain ⟨rfl, rfl⟩ := dict_ep hod hdt
    obtain ⟨⟨k, v⟩, hkv⟩ : ∃ p, kvs[i]? = some p := ⟨kvs[i], List.getElem?_eq_getElem hi⟩
    obtain ⟨u, hu, ru⟩ := kv_get kv hkv
    have hl : kvs.length = vs.length := Paired.length kv
    rw [hl] at st ⊢
    refine wpAny_pyNext_dict_item st hm hu fun key h' hkey st' sb => ?_
    have I1 : Inv X pins σ H { s with heap := h' } := I.turned (t' := s.toks) (fun b ob hb q => (sb.2 b hb).trans q) f0 f1 f3 f4 f5
    obtain ⟨oi, q, c, dd⟩ := id st'
    exact ⟨key, rfl, go_of (s := { s with heap := h' }) q c dd (by decide) ⟨kV k, H, I1, relV_key (show keyIs k key = true from hkey), ⟨rfl, k, v, hkv, rfl⟩, st', fun b hb => (hf b hb).1⟩⟩
  done := by
    intro X hP hw hK hh i pins s σ H E I hf st ⟨⟨hd, hi⟩, hot⟩
    subst hP hw hK
    obtain ⟨f0, f1, f2, f3, f4, f5⟩ := hf it (by simp)
    obtain ⟨hs, hgd, hx, es', ep', vs, hdt, hsz, kv, hm⟩ := I.frzK hd
    obtain ⟨rfl, rfl⟩ := dict_ep hod hdt
    obtain ⟨ht, hn⟩ := hot.at_ hh I
    rw [← hsz] at st hi
    exact keys_end_hot ht (fun q => hn (q ▸ f0)) st ⟨o, hgd, hx, hdt⟩ hi fun h' eb => ⟨rfl, I.turned (t' := s.toks) (fun b ob hb q => eb b ob hb q) f0 f1 f3 f4 f5⟩
  self := fun A i s Q E st h => wpAny_pyIter_keyiter st h
end HX

namespace HX
open PySem PySem.Spec PyProof.Rows L2 KT HotX RZ
open PySem.W (Frag)
/-! ### a list by a comprehension while an error is handled -/
/-- an iterator has come -/
def CameE (e : Addr) (X : Cx) (pins : List (Addr × Obj)) (σ : L2.St) (tg : Expr) (R : It → Hp → Prop) (itv : Value) (s2 : Shared) : Prop :=
  ∃ (it : Addr) (fp : List Addr) (tn : Nat → Heap → Prop) (J : It) (H' : Hp), itv = .ref it ∧ Inv X pins σ H' s2 ∧ TurnE e X.prog X.w X.K tg J fp it tn ∧ tn 0 s2.heap ∧ (∀ b ∈ fp, FpOk X pins H' b) ∧ R J H'
structure PIE_ (e : Addr) (X : Cx) (tg iter : Expr) (wi : TI) : Prop where
  run : ∀ (pins : List (Addr × Obj)) (s : Shared) (σ : L2.St) (H : Hp) (R : It → Hp → Prop), Inv X pins σ H s → wi σ H R →
    wpAny (model X.prog X.w) X.A (eval iter X.env) (fun v s1 => wpAny (model X.prog X.w) X.A (pyIter v) (CameE e X pins σ tg R) X.xe s1) X.xe s
section
variable {X : Cx} {e : Addr}
theorem pe_lcE {elt tg iter : Expr} {ifs : List Expr} {scope : Scope} {own : List (Str × Nat)} {pos : Pos} {wi : TI} {g : TG} {tt : TT} {te : TE} (hh : X.A.handled = some (.ref e)) (hN : X.N.Nodup) (hi : PIE_ e X tg iter wi) (ok : BlkOk X.N X.env.scope scope own)
    (hg : ∀ (s : Shared) (H : Hp) (C : Addr) (cl : List (Str × Addr)) (fp : List Addr), PG (X.blk s H scope (compEnvC scope cl C X.env) fp) tg g) (ht : ∀ (s : Shared) (H : Hp) (C : Addr) (cl : List (Str × Addr)) (fp : List Addr), PTs (X.blk s H scope (compEnvC scope cl C X.env) fp) ifs tt)
    (he : ∀ (s : Shared) (H : Hp) (C : Addr) (cl : List (Str × Addr)) (fp : List Addr), PE (X.blk s H scope (compEnvC scope cl C X.env) fp) elt te) (hs : ∀ x, foldedSetIterable iter X.env x = pure x := by intro _; rfl) :
    PE X (.ListComp elt [⟨tg, iter, ifs, 0⟩] scope pos) (tLc wi g tt te (own.map (·.2))) := by
  refine ⟨fun pins s σ H Q I h => ?_⟩
  rw [eval_ListComp]
  have hfree : ∀ y ∈ scope.names, y.2 = .free → ∃ c, X.env.cells.lookup y.1 = some c := fun y hy q => (ok.free y hy q).elim (fun k => I.ok.has _ (.inl k)) fun k => I.ok.has _ (.inr k)
  refine wpAny_comprehension_free (use := none) rfl hs (closure_ok hfree) ok.kind (fun y hy q => by rw [ok.uniq y hy, q])
    (thn (hi.run pins s σ H _ I h) fun _ s1 hx => thn hx fun _ s2 ⟨it, fp, tn, J, H2, q, I2, T, st2, f2, W⟩ => ?_)
  subst q
  refine wpAny_newObj_type (newEnv_comp ?_) (by show 0 ≤ sizeLine; decide)
  -- the new list D
  obtain ⟨D, hD⟩ : ∃ D, s2.heap.objs.size = D := ⟨_, rfl⟩
  obtain ⟨s3, hs3⟩ : ∃ s3 : Shared, s3 = { s2 with heap := s2.heap.push { cls := .type "list", data := .seq ([] : List Value).toArray } } := ⟨_, rfl⟩
  have g3 : ∀ b o, s2.heap.get? b = some o → s3.heap.get? b = some o := fun b o q => by rw [hs3]; exact Heap.get?_push_of_some _ q
  obtain ⟨Wt, ⟨m0, w0⟩, turn⟩ := W D (I2.hok.fresh (Nat.le_of_eq hD))
  have I3 : Inv X pins σ (upd H2 D (.lst [])) s3 := by
    rw [hs3]
    exact I2.laid (t' := s2.toks) (fun b o q => Heap.get?_push_of_some _ q) (Nat.le_of_eq hD) ⟨Nat.zero_le _, [], 0, .nil, by rw [← hD]; exact Heap.get?_push_size _ rfl⟩
  have sz : ∀ b ∈ fp, b < s2.heap.objs.size := fun b hb => by
    obtain ⟨o, q, _⟩ := T.obj _ _ st2 b hb
    exact Heap.lt_size q
  have f3 : ∀ b ∈ fp, FpOk X pins (upd H2 D (.lst [])) b ∧ b < s3.heap.objs.size := fun b hb =>
    ⟨⟨by rw [upd_ne (by rw [← hD]; exact Nat.ne_of_lt (sz b hb))]; exact (f2 b hb).1, (f2 b hb).2⟩, by rw [hs3]; show b < (s2.heap.push _).objs.size; rw [Heap.size_push]; exact Nat.lt_succ_of_lt (sz b hb)⟩
  have st3 : tn 0 s3.heap := T.keep _ _ _ st2 fun b _ o q => g3 b o q
  have I4 := block_start I3 ok hN f3
  have pg := hg s3 (upd H2 D (.lst [])) s3.heap.objs.size (cellsFrom (s3.heap.objs.size + 1) scope.names (cloFrom X.env.cells scope.names [])) fp
  have pt := ht s3 (upd H2 D (.lst [])) s3.heap.objs.size (cellsFrom (s3.heap.objs.size + 1) scope.names (cloFrom X.env.cells scope.names [])) fp
  have pe := he s3 (upd H2 D (.lst [])) s3.heap.objs.size (cellsFrom (s3.heap.objs.size + 1) scope.names (cloFrom X.env.cells scope.names [])) fp
  have goal : codeAny (model X.prog X.w) X.A (.compStart (.ListComp elt [⟨tg, iter, ifs, 0⟩] scope pos) 0 (.ref it) (.ref D) (compEnvC scope (cellsFrom (s3.heap.objs.size + 1) scope.names (cloFrom X.env.cells scope.names [])) s3.heap.objs.size X.env))
      (compPost (model X.prog X.w) X.A X.xe none (EP X pins σ Q) (.ref D) s3.heap.objs.size) { s3 with heap := pushCells (s3.heap.push { cls := .type "dict", data := .dict #[] }) scope.names } := by
    have nfp : ∀ b ∈ fp, (upd H2 D (.lst [])) b = none := fun b hb => (f3 b hb).1.1
    generalize hce : compEnvC scope (cellsFrom (s3.heap.objs.size + 1) scope.names (cloFrom X.env.cells scope.names [])) s3.heap.objs.size X.env = ce at I4 pg pt pe ⊢
    have cL : ce.locals = s3.heap.objs.size := by subst hce; rfl
    generalize upd H2 D (.lst []) = H3 at I3 I4 pg pt pe w0 nfp f3
    generalize hs4 : ({ s3 with heap := pushCells (s3.heap.push { cls := .type "dict", data := .dict #[] }) scope.names } : Shared) = s4 at I4 ⊢
    have st4 : tn 0 s4.heap := T.keep _ _ _ st3 fun b _ o q => by rw [← hs4]; exact pushCells_keeps _ _ _ _ (Heap.get?_push_of_some _ q)
    have stat : ∀ {σ' : L2.St} {H' : Hp} {s' : Shared}, Inv (X.blk s3 H3 scope ce fp) [] σ' H' s' → (∀ b ∈ fp, H' b = none) → ∀ b ∈ fp, FpOk (X.blk s3 H3 scope ce fp) [] H' b := fun {σ' H' s'} I' hn b hb =>
      ⟨hn b hb, (I'.ok.exf b hb).1, I'.ok.exfs b hb, .inl hb, fun x c q => (I'.ok.exf b hb).2 x c q, fun p hp => absurd (show p ∈ ([] : List (Addr × Obj)) ++ [] from hp) (by simp)⟩
    have loop : codeAny (model X.prog X.w) X.A (.compLoop (.ListComp elt [⟨tg, iter, ifs, 0⟩] scope pos) 0 (.ref it) (.ref D) ce) (compPost (model X.prog X.w) X.A X.xe none (EP X pins σ Q) (.ref D) s3.heap.objs.size) s4 := by
      refine compLoop_any (fun n s' => ∃ i H', Inv (X.blk s3 H3 scope ce fp) [] (wipe σ (own.map (·.2))) H' s' ∧ tn i s'.heap ∧ (∀ b ∈ fp, H' b = none) ∧ Wt i n H') ?_ m0 ⟨0, H3, I4, st4, nfp, w0⟩
      rintro n s5 ⟨i, H5, I5, st5, n5, w5⟩
      rcases turn i n H5 w5 with ⟨stop, qq⟩ | ⟨go, Nx, hNx, step⟩
      · -- the end
        refine thnF (T.done (X.blk s3 H3 scope ce fp) rfl rfl rfl hh i [] s5 _ H5 (fun _ _ => False) I5 (stat I5 n5) st5 stop) fun r s6 ⟨hr, I6⟩ => ?_
        subst hr
        have I7 : Inv X pins σ H5 s6 := I3.call' (ch := fp) I6.os I6.base I6.hok I6.bare fun b hb => ⟨(f3 b hb).1.2.2.2.1, (f3 b hb).1.2.1, (f3 b hb).1.2.2.2.2.1, (f3 b hb).1.2.2.2.2.2⟩
        have nC : H5 s3.heap.objs.size = none := cL ▸ (show H5 ce.locals = none from I6.free)
        obtain ⟨m, hn, _⟩ := I6.loc
        obtain ⟨_, f1, _, f4, f5, f6⟩ := I3.fpOk (Nat.le_refl _) nC
        exact ⟨m, cL ▸ (show s6.heap.Ns ce.locals m from hn), fun h'' sb => ⟨.ref D, H5, I7.turned (t' := s6.toks) (fun b o hb q => (sb.2 b hb).trans q) nC f1 f4 f5 f6, rfl, qq⟩⟩
      · -- a turn
        refine thnF (T.item (X.blk s3 H3 scope ce fp) rfl rfl rfl hh i [] s5 _ H5 (fun _ _ => False) I5 (stat I5 n5) st5 go) fun r s6 ⟨u, hr, h6⟩ => ?_
        subst hr
        refine thnF h6 fun _ s7 ⟨x, H7, I7, r7, y7, st7, n7⟩ => ?_
        refine thnF (pg.run _ s7 _ H7 x u _ (I7.pinned (stat I7 n7) (T.obj _ _ st7)) r7 (step x H7 y7)) fun _ s8 ⟨σ8, H8, I8, hw8, q8⟩ => ?_
        refine thnF (pt.run _ s8 σ8 H8 _ I8 q8) fun b s9 ⟨H9, I9, q9⟩ => ?_
        have fin : ∀ {s' : Shared} {H' : Hp}, Inv (X.blk s3 H3 scope ce fp) ([] ++ pinsAt fp s7.heap) σ8 H' s' → Nx H' → ∃ m, m < n ∧ ∃ i H', Inv (X.blk s3 H3 scope ce fp) [] (wipe σ (own.map (·.2))) H' s' ∧ tn i s'.heap ∧ (∀ b ∈ fp, H' b = none) ∧ Wt i m H' := fun {s' H'} I' nx => by
          obtain ⟨m', hm, w'⟩ := hNx H' nx
          have pin' : ∀ b ∈ fp, ∀ o, s7.heap.get? b = some o → s'.heap.get? b = some o ∧ H' b = none := fun b hb o q =>
            let z := I'.pin (b, o) (List.mem_append_right _ (List.mem_append_right _ (mem_pinsAt hb q)))
            ⟨z.1, z.2.1⟩
          refine ⟨m', hm, i + 1, H', (I'.unpinned (pins := [])).weak (by rw [← hw8, wipe_length]) (fun j v q => ?_), T.keep _ _ _ st7 fun b hb o q => (pin' b hb o q).1, fun b hb => ?_, w'⟩
          · rw [← hw8] at q
            exact (wipe_some q).1
          · obtain ⟨o, q, _⟩ := T.obj _ _ st7 b hb
            exact (pin' b hb o q).2
        cases b with
        | false =>
          simp only [Bool.false_eq_true, if_false] at q9 ⊢
          exact fin I9 q9
        | true =>
          simp only [if_true] at q9 ⊢
          exact thnF (pe.run _ s9 σ8 H9 _ I9 q9) fun z s10 ⟨yv, H10, I10, r10, acc, hD10, hz10, nx⟩ => app_ok (X := X.blk s3 H3 scope ce fp) I10 hD10 hz10 r10 fun s11 I11 => fin I11 nx
    exact codeAny_compStart_list loop (T.self X.A 0 _ _ _ st4 loop)
  subst hs3
  subst hD
  exact goal
end
end HX

namespace HX
open PySem PySem.Spec PyProof.Rows L2 KT HotX RZ
open PySem.W (Frag)
/-! ### zip, keys, all, list of a dictionary, while an error is handled -/
def hotI (e : Addr) (wi : TI) : TI := fun σ H R => wi σ H fun J H1 => R (hotIt e J) H1
theorem came_one {e : Addr} {X : Cx} {tg : Expr} {pins : List (Addr × Obj)} {σ : L2.St} {H : Hp} {s : Shared} {R : It → Hp → Prop} {J : It} {tn : Nat → Heap → Prop} {tk : Nat} (I : Inv X pins σ H s) (o : Obj)
    (T : TurnE e X.prog X.w X.K tg J [s.heap.objs.size] s.heap.objs.size tn) (st : tn 0 (s.heap.push o)) (q : R J H) : CameE e X pins σ tg R (.ref s.heap.objs.size) { s with heap := s.heap.push o, toks := tk } := by
  refine ⟨s.heap.objs.size, [s.heap.objs.size], tn, J, H, rfl, I.kept fun b ob e => Heap.get?_push_of_some _ e, T, st, fun b hb => ?_, q⟩
  rw [List.mem_singleton.mp hb]
  exact I.fpOk (Nat.le_refl _) (I.hok.fresh (Nat.le_refl _))
theorem pi_keysE {X : Cx} {e : Addr} {tg o : Expr} {td : TE} (he : PE X o td) : PIE_ e X tg o (hotI e (iKeysM td)) := by
  refine ⟨fun pins s σ H R I h => ?_⟩
  refine thn (he.run pins s σ H _ I h) fun u s1 ⟨x, H1, I1, rx, d, o, kvs, ex, hd, q⟩ => ?_
  subst ex
  obtain rfl : u = Value.ref d := rx
  obtain ⟨hs, hgd, hx, es, ep, vs, hdt, hsz, kv, hm⟩ := I1.frzK hd
  refine iter_keys hs hgd hx hdt (came_one (tk := s1.toks) I1 _ (turnE_keys _ hdt) ⟨_, Heap.get?_push_size _ rfl, rfl, ?_⟩ q)
  rw [hsz] <;> rfl
theorem pi_zipE {X : Cx} {e : Addr} {o o2 : Expr} {ta : TA} {p pos tpos : Pos} {elts : List Expr} {kk : Nat} (hg : Gl X "zip") (hm : X.mg "zip" = none) (ha : PA X [o, o2] ta)
    (hs : starEach [o, o2] X.env = (false, eval o X.env) :: starEach [o2] X.env := by rfl) (hpl : (backTo pos (starEach [o2] X.env)).any (·.1) = false := by rfl) :
    PIE_ e X (.Tuple elts kk tpos) (.Call (.Name "zip" p) [o, o2] [] pos) (hotI e (iZipA X.K ta)) := by
  refine ⟨fun pins s σ H R I h => ?_⟩
  refine Call_ (ld_blt I hg hm PyProof.Rows.boot_zip (PyProof.Rows.callWith_type1 (thn (ha.run pos pins s σ H _ I h) fun us s1 ⟨vs, H1, I1, r1, a, b, xs, ys, ex, q1⟩ => ?_) hs hpl))
  subst ex
  cases r1 with
  | cons r rr =>
    cases rr with
    | cons r' rr =>
      cases rr
      cases r
      cases r'
      have fr : ∀ c, s1.heap.objs.size ≤ c → FpOk X pins H1 c := fun c hle => I1.fpOk hle (I1.hok.fresh hle)
      have fresh5 : ∀ c ∈ [s1.heap.objs.size + 4, s1.heap.objs.size + 2, s1.heap.objs.size + 3, s1.heap.objs.size, s1.heap.objs.size + 1], FpOk X pins H1 c :=
        five (fr _ (Nat.le_add_right _ _)) (fr _ (Nat.le_add_right _ _)) (fr _ (Nat.le_add_right _ _)) (fr _ (Nat.le_refl _)) (fr _ (Nat.le_add_right _ _))
      rcases q1 with ⟨hqx, hqy, q⟩ | ⟨hqx, hqy, q⟩
      · obtain ⟨its, rv, p1, _⟩ := I1.list hqx
        obtain ⟨its2, rv2, p2, _⟩ := I1.list hqy
        refine call_zip_2 p1.isList p2.isList fun h' hz hTI hTO h1 h2 hsz hk => wpAny_pyIter_zip hz ?_
        exact ⟨s1.heap.objs.size + 4, _, _, _, H1, rfl, I1.kept (t' := s1.toks) hk, turnE_zipList (PySem.W.ktu_apart s1.heap.objs.size a b p1.lt p2.lt), ⟨hz, hTI, ⟨_, _, hTO⟩, h1, h2⟩, fresh5, q⟩
      · obtain ⟨its, rv, p1, _⟩ := I1.tuple hqx
        obtain ⟨its2, rv2, p2, _⟩ := I1.tuple hqy
        obtain ⟨o1, ho1, _⟩ := id p1
        obtain ⟨o2, ho2, _⟩ := id p2
        refine call_zipT (show s1.heap.IsTuple a its.toArray from p1) (show s1.heap.IsTuple b its2.toArray from p2) fun h' hz hTI hTO h1 h2 hsz hk => wpAny_pyIter_zip hz ?_
        exact ⟨s1.heap.objs.size + 4, _, _, _, H1, rfl, I1.kept (t' := s1.toks) hk, turnE_zipTuple (PySem.W.ktu_apart s1.heap.objs.size a b (Heap.lt_size ho1) (Heap.lt_size ho2)), ⟨hz, hTI, ⟨_, _, hTO⟩, h1, h2⟩, fresh5, q⟩
/-! all(xs) of a list of bools -/
theorem walks_listH {prog : Program} {w : World} {A : Around} {x1 : Addr} {o1 : Obj} {vs1 : Array Value} (hh : A.handled = some (.ref x1)) (d1 : o1.data = .fields vs1) (c1 : vs1[2]? = some .none) (I ax : Addr) (hne : ax ≠ I) (nx : x1 ≠ I) (items : Array Value) :
    Walks prog w A I [I, ax, x1] [I] items.size (fun i v => items[i]? = some v) (fun i h => (h.IsListIter I ax i ∧ h.IsList ax items) ∧ h.get? x1 = some o1) where
  sub := fun b hb => by rw [List.mem_singleton.mp hb]; exact List.mem_cons_self
  frame := fun _ _ _ st hk => ⟨⟨st.1.1.at fun o e => hk I (by simp) o e, st.1.2.at fun o e => hk ax (by simp) o e⟩, hk x1 (by simp) _ st.2⟩
  item := fun i s Q E hi st hQ => by
    refine wpAny_pyNext_list_item st.1.1 st.1.2 (x := items[i]) (by simp [hi]) fun h' hit' hs' => ?_
    exact hQ _ h' s.toks (by simp [hi]) ⟨⟨hit', st.1.2.extBut hs'.extBut hne⟩, hs'.extBut _ _ nx st.2⟩ fun b o hb e => hs'.extBut b o (fun h => hb (by simp [h])) e
  done := fun s Q E st hQ => list_end_hot ⟨hh, o1, vs1, st.2, d1, c1⟩ st.1.1 st.1.2 (by simp) nx fun h' he' => hQ h' s.toks fun b o hb e => he' b o (fun h => hb (by simp [h])) e
  self := fun _ _ _ _ st hQ => wpAny_pyIter_listiter st.1.1 hQ
section
variable {X : Cx} {e : Addr}
def rAllE (e : Addr) (K : Frag) : List V → Hp → VK → Prop := fun vs H Q => ∃ (a : Addr) (bs : List Bool), vs = [V.ref a] ∧ SqL K H a (bs.map V.bl) ∧ HotH e H ∧ Q (.bl (bs.all id)) H
theorem cr_allE (hh : X.A.handled = some (.ref e)) : CallR X (.builtin "all") (rAllE e X.K) := by
  intro pins s σ H vs us Q I r h
  obtain ⟨a, bs, rfl, hs, hot, q⟩ := h
  obtain ⟨its, rv, hl, _⟩ := I.list hs
  obtain ⟨⟨_, o1, vs1, g1, d1, c1⟩, _⟩ := hot.at_ hh I
  rw [Vals.ref1 r]
  have hb := rv.bls
  refine call_all_walk (iter_any hl.isList fun s₂ e2 st hne => ?_)
  subst e2
  have nx : e ≠ s.heap.objs.size := Nat.ne_of_lt (Heap.lt_size g1)
  refine ⟨_, _, _, _, _, _, _, rfl, walks_listH (A := X.A.in1) hh d1 c1 _ a hne nx its.toArray, ⟨st, Heap.get?_push_of_some _ g1⟩, truth_bools hb, fun h' tk hk => ?_⟩
  refine ⟨.bl _, H, I.kept fun b o eo => hk b o (fun hmem => ?_) (Heap.get?_push_of_some _ eo), ?_, q⟩
  · exact absurd (List.mem_singleton.mp hmem ▸ Heap.lt_size eo) (Nat.lt_irrefl _)
  · show Value.bool _ = Value.bool _
    rw [← L2.all_range, hb, List.size_toArray, List.length_map]
end
end HX

namespace HX
open PySem PySem.Spec PyProof.Rows L2 L2H KT HotX
open PySem.W (Frag)
/-! ### defs that are called while an error is handled -/
abbrev cxE (CX : CXT) (P : Program) (w : World) (K : Frag) (mg : Str → Option Value) (base : Heap) (N : List Str) (qual : Str) (scope : Scope) (f : Addr) (cd : Value) (A : Around) (outer : List Env) (s : Shared) (H : Hp) (E : XK) : Cx :=
  { cxOf CX P w K mg base N qual scope f cd A outer s H E with calm := false }
structure FnE (e : Addr) (P : Program) (w : World) (K : Frag) (mg : Str → Option Value) (base : Heap) (CX : CXT) (k : Nat) (f : Addr) (fd : FuncData) (ps : List Str) (sp : Sp) : Prop where
  len : ∀ vs H Q E, sp vs H Q E → vs.length = ps.length
  run : ∀ (A : Around) (outer : List Env) (s : Shared) (H : Hp) (args : Args) (us : List Value) (vs : List V) (Q : VK) (E : XK), RoomH k A → A.handled = some (.ref e) → Env0 P w K mg base A outer s H → BindsTo s fd args (ps.zip us) → Vals vs us → sp vs H Q E →
    codeAny (model P w) A (.call (.ref f) args) (CR CX outer P w H s Q E) s
theorem FnE.mono {e : Addr} {P : Program} {w : World} {K : Frag} {mg : Str → Option Value} {base : Heap} {CX : CXT} {j k : Nat} {f : Addr} {fd : FuncData} {ps : List Str} {sp : Sp} (F : FnE e P w K mg base CX j f fd ps sp) (h : j ≤ k) : FnE e P w K mg base CX k f fd ps sp :=
  ⟨F.len, fun A outer s H args us vs Q E hr => F.run A outer s H args us vs Q E (hr.mono h)⟩
theorem env0_mark {P : Program} {w : World} {K : Frag} {mg : Str → Option Value} {base : Heap} {A : Around} {outer : List Env} {s : Shared} {H : Hp} (e0 : Env0 P w K mg base A outer s H) : Env0 P w K mg base { A with handled := none } outer s H :=
  ⟨e0.frames, e0.mod, e0.bs, e0.bsz, e0.funs, e0.frf, e0.hok, e0.bare⟩
theorem inv_startE {CX : CXT} {P : Program} {w : World} {K : Frag} {mg : Str → Option Value} {base : Heap} {N ps : List Str} {qual : Str} {scope : Scope} {f : Addr} {cd : Value} {A : Around} {outer : List Env} {s s1 : Shared} {H : Hp} {E : XK} {us : List Value} {vs : List V}
    (S : FnScope N ps scope) (e0 : Env0 P w K mg base A outer s H) (hl : vs.length = ps.length) (r : Vals vs us)
    (x : InCallC s s.heap.objs.size (bindL (envOfC qual scope s.heap.objs.size f cd).kindOf (ps.zip us) fun _ => none) (cellsFrom (s.heap.objs.size + 1) scope.names []) (bindC (envOfC qual scope s.heap.objs.size f cd).kindOf (ps.zip us) fun _ => none) s1) :
    Inv (cxE CX P w K mg base N qual scope f cd A outer s H E) [] (L2.start N vs) H s1 := by
  have I := inv_start (CX := CX) (A := { A with handled := none }) (E := E) S rfl (env0_mark e0) hl r x
  have o := I.ok
  exact ⟨⟨o.mod, o.kind, o.glob, o.blt, o.above, o.inj, o.has, o.cab, fun z => Bool.noConfusion (show false = true from z), Around.frames_deeper e0.frames, o.stk, o.exf, o.bs, o.bsz, o.noex, o.exfs, o.funs, o.frf⟩, I.os, I.bare, I.base, I.loc, I.cell, I.free, I.freeC, I.pin, I.hok, I.len⟩
theorem okE {e : Addr} {P : Program} {w : World} {K : Frag} {mg : Str → Option Value} {base : Heap} {x qual : Str} {st : Stmt} {f : Addr} {fd : FuncData} {N ps : List Str} {k : Nat} {sp : Sp} (F : L2.Fun K x qual st f fd) (S : FnScope N ps (defScope st)) (len : ∀ vs H Q E, sp vs H Q E → vs.length = ps.length)
    (hbody : ∀ (cdv : Value) (A : Around) (outer : List Env) (s : Shared) (H : Hp) (vs : List V) (Q : VK) (E : XK), A.handled = some (.ref e) → RoomH k (A.deeper (envOfC qual (defScope st) s.heap.objs.size f cdv)) → sp vs H Q E →
      ∃ t, PSs (cxE CX0 P w K mg base N qual (defScope st) f cdv A outer s H E).nox (defBody st) t ∧ t { nx := fun _ H' => Q .non H', rt := Q } (L2.start N vs) H) : FnE e P w K mg base CX0 (k + 1) f fd ps sp := by
  obtain ⟨oc, od, kV, doc, pm, an, cdv, ct, osl, rfl, lk, hcd⟩ := F.ex
  refine ⟨len, fun A outer s H args us vs Q E hr hh e0 hb r hsp => ?_⟩
  have hl := len _ _ _ _ hsp
  have KX : K.In s.heap := e0.mod.kin.keeps fun b o q => (e0.bs b o q).1
  have lim : s.heap.NoLimit := e0.mod.nolimit.keeps fun b o q => (e0.bs b o q).1
  refine codeAny_call_function hr.depth (KX _ _ lk) rfl S.co S.gen rfl (PySem.W.codeRec_of KX hcd) (hb _ _ _ _ ?_)
  refine wpAny_newFunctionEnv_cells S.kind (fun ⟨n, v⟩ hy => (S.par n (List.of_mem_zip hy).1).elim .inl fun q => .inr ⟨q, PySem.W.cellsFrom_some _ _ _ (.inl q)⟩) fun env he s1 x => ?_
  subst he
  refine ⟨lim.keeps x.toInCall.keep, codeAny_func ?_⟩
  obtain ⟨t, ht, hq⟩ := hbody cdv A outer s H vs Q E hh (hr.deeper _) hsp
  have I := inv_startE (CX := CX0) (P := P) (w := w) (K := K) (mg := mg) (base := base) (E := E) S e0 hl r x
  refine wpAny_mono (ht.nox.run [] s1 (L2.start N vs) H _ I hq) (fun fl s' hs => ?_) fun _ _ hs => hs
  cases fl with
  | ret u =>
    obtain ⟨v, σ', H', J, rv, q⟩ := hs
    exact ⟨v, H', J.os, J.bare, J.base, J.hok, rv, q⟩
  | next =>
    obtain ⟨σ', H', J, q⟩ := hs
    exact ⟨V.non, H', J.os, J.bare, J.base, J.hok, rfl, q⟩
  | brk =>
    obtain ⟨_, _, _, q⟩ := hs
    exact q.elim
  | cont =>
    obtain ⟨_, _, _, q⟩ := hs
    exact q.elim
section
variable {X : Cx} {CX : CXT} {k : Nat} {f e : Addr} {fd : FuncData} {ps : List Str} {sp : Sp} {E : XK} {x : Str} {q pos : Pos} {a : Expr} {es : List Expr} {t : TA}
theorem pe_callE (F : FnE e X.prog X.w X.K X.mg X.base CX k f fd ps sp) (hr : RoomH k X.A) (hh : X.A.handled = some (.ref e)) (hg : Gl X x) (hm : X.mg x = some (.ref f)) (hk : PySem.W.keepIn X.K (.ref f) = true) (hb : Binds X.K fd ps []) (hx : Passes CX X E)
    (ha : PA X (a :: es) t) (hdb : (x == ("__debug__" : Str)) = false := by decide) (he : starEach (a :: es) X.env = (false, eval a X.env) :: starEach es X.env := by rfl) (hpl : (backTo pos (starEach es X.env)).any (·.1) = false := by rfl) :
    PE X (.Call (.Name x q) (a :: es) [] pos) (tCall sp [] E t) := by
  refine ⟨fun pins s σ H Q I h => ?_⟩
  refine wpAny_Call_Name_kw (ld_glob I hg hm ?_ hdb)
  refine PySem.W.callWith_K (h₀ := X.base) I.ok.mod.kin hk (thn (ha.run pos pins s σ H _ I h) fun us s1 ⟨vs, H1, I1, r, q⟩ => ⟨I1.kIn, ?_⟩) he hpl
  have q : sp vs H1 Q E := by
    have z : sp (vs ++ []) H1 Q E := q
    rw [List.append_nil] at z
    exact z
  have hl : us.length = ps.length := by rw [← r.length]; exact F.len _ _ _ _ q
  have b := hb s1 us I1.kIn (by rw [List.append_nil]; exact hl)
  rw [List.append_nil] at b
  refine wpAny_call (codeAny_mono (F.run X.A X.stack s1 H1 ⟨us, []⟩ us vs Q E hr hh I1.env0 b r q) fun r s' hq => ?_)
  cases r with
  | error x => exact hx pins σ H1 s1 x s' I1 hq
  | ok fl =>
    cases fl with
    | ret u => exact I1.after hq
    | next => exact hq.elim
    | brk => exact hq.elim
    | cont => exact hq.elim
end
end HX

namespace HX
open PySem PySem.Spec PyProof.Rows L2 L2H KT HotX
open PySem.W (Frag)
/-! ### list(d) while an error is handled -/
section
variable {prog : Program} {w : World} {κ : Type} [DecidableEq κ] {knd : KeyKind prog w κ}
theorem walks_keysH {A : Around} {x1 : Addr} {o1 : Obj} {vs1 : Array Value} (hh : A.handled = some (.ref x1)) (d1 : o1.data = .fields vs1) (c1 : vs1[2]? = some .none) (I d : Addr) (hne : d ≠ I) (nx : x1 ≠ I) (kvs : List (κ × Value)) (ep : Nat) :
    Walks prog w A I [I, d, x1] [I] kvs.length (fun i v => ∃ k x, kvs[i]? = some (k, x) ∧ knd.is k v = true) (fun i h => (h.IsKeyIter I d i kvs.length ep ∧ h.DictAt knd d kvs ep) ∧ h.get? x1 = some o1) where
  sub := fun b hb => by rw [List.mem_singleton.mp hb]; exact List.mem_cons_self
  frame := fun _ _ _ st hk => ⟨⟨st.1.1.at fun o e => hk I (by simp) o e, st.1.2.at' fun o e => hk d (by simp) o e⟩, hk x1 (by simp) _ st.2⟩
  item := fun i s Q E hi st hQ => by
    obtain ⟨⟨k, x⟩, hx⟩ : ∃ p, kvs[i]? = some p := ⟨kvs[i], by simp [hi]⟩
    refine wpAny_pyNext_dict_item st.1.1 st.1.2 hx fun key h' hkey hit' hs' => ?_
    exact hQ key h' s.toks ⟨k, x, hx, hkey⟩ ⟨⟨hit', st.1.2.extBut hs'.extBut hne⟩, hs'.extBut _ _ nx st.2⟩ fun b o hb e => hs'.extBut b o (fun h => hb (by simp [h])) e
  done := fun s Q E st hQ => by
    obtain ⟨⟨hit, hm⟩, g1⟩ := st
    obtain ⟨o, es, ho, hx, hd, _, hp, _⟩ := hm
    have sz : kvs.length = es.size := by have := hp.length; rw [Array.length_toList] at this; omega
    rw [sz] at hit
    exact keys_end_hot ⟨hh, o1, vs1, g1, d1, c1⟩ nx hit ⟨o, ho, hx, hd⟩ (Nat.le_refl _) fun h' he' => hQ h' s.toks fun b o hb e => he' b o (fun h => hb (by simp [h])) e
  self := fun _ _ _ _ st hQ => wpAny_pyIter_keyiter st.1.1 hQ
theorem list_keysH {A : Around} {E : Value → Shared → Prop} {s : Shared} {x1 d : Addr} {o1 : Obj} {vs1 : Array Value} {kvs : List (κ × Value)} {ep : Nat} {Q : Value → Shared → Prop} (hh : A.handled = some (.ref x1)) (g1 : s.heap.get? x1 = some o1) (d1 : o1.data = .fields vs1) (c1 : vs1[2]? = some .none)
    (lo : (d == sysModules) = false) (hm : s.heap.DictAt knd d kvs ep) (hn : kvs.length ≤ sizeLine)
    (hQ : ∀ h' tk acc' c', (∀ b o, s.heap.get? b = some o → h'.get? b = some o) → h'.get? s.heap.objs.size = some { cls := .type "list", dict := none, data := .seq acc' c', slots := #[] } → ItemsOf (fun i v => ∃ k x, kvs[i]? = some (k, x) ∧ knd.is k v = true) acc' kvs.length → Q (.ref s.heap.objs.size) { s with heap := h', toks := tk }) :
    wpAny (model prog w) A (call (.type "list") [.ref d]) Q E s := by
  have dlt : d < s.heap.objs.size := hm.lt_size
  have xlt : x1 < s.heap.objs.size := Heap.lt_size g1
  refine callType_codes (Q₁ := fun obj s₁ => obj = .ref s.heap.objs.size ∧ s₁ = { s with heap := s.heap.push { cls := .type "list", data := .seq #[] } }) PySem.F.called_list (PySem.F.typeCall_list_1 _) PySem.F.entry_list_init
    (code_list_new _ ⟨rfl, rfl⟩) fun obj s₁ ⟨e1, e2⟩ => ?_
  subst e1 e2
  obtain ⟨S, eS⟩ : ∃ S, S = s.heap.objs.size := ⟨_, rfl⟩
  rw [← eS] at hQ dlt xlt ⊢
  have hS : (s.heap.push { cls := .type "list", data := .seq #[] }).get? S = some { cls := .type "list", data := .seq #[] } := by rw [eS]; exact Heap.get?_push_size _ rfl
  have up1 : ∀ b o, s.heap.get? b = some o → (s.heap.push { cls := .type "list", data := .seq #[] }).get? b = some o := fun b o e => Heap.get?_push_of_some _ e
  generalize hT : ({ s with heap := s.heap.push { cls := .type "list", data := .seq #[] } } : Shared) = t
  have th : t.heap = s.heap.push { cls := .type "list", data := .seq #[] } := by rw [← hT]
  rw [← th] at hS up1
  have fin : ∀ h' tk acc' c', (∀ b o, b ≠ S → t.heap.get? b = some o → h'.get? b = some o) → h'.get? S = some { cls := .type "list", dict := none, data := .seq acc' c', slots := #[] } → ItemsOf (fun i v => ∃ k x, kvs[i]? = some (k, x) ∧ knd.is k v = true) acc' kvs.length →
      Q (.ref S) { t with heap := h', toks := tk } := fun h' tk acc' c' k e i => by
    have z := hQ h' tk acc' c' (fun b o q => k b o (fun e => absurd (e ▸ eS ▸ Heap.lt_size q) (Nat.lt_irrefl _)) (up1 b o q)) e i
    rw [← hT]
    exact z
  refine ⟨⟨_, hS, rfl⟩, PySem.F.args_list_init_2 _ _, ?_⟩
  show wpAny _ _ (do let old ← Builtin.List.listItems (.ref S); Builtin.List.listUpdate (.ref S) (fun _ => #[]); letGo old.toList.reverse; Builtin.List.listExtendWith (.ref S) (.ref d) .none) _ _ t
  refine wpAny_bind ?_
  unfold Builtin.List.listItems
  refine wpAny_bind (wpAny_seqItems hS rfl (wpAny_pure ?_))
  show wpAny _ _ (updateSeq S (fun _ => #[]) >>= fun _ => letGo (#[] : Array Value).toList.reverse >>= fun _ => Builtin.List.listExtendWith (.ref S) (.ref d) .none) _ _ t
  refine wpAny_bind (wpAny_updateSeq hS rfl ?_)
  have hS2 := Heap.get?_update_self (Obj.mapSeq (fun _ => (#[] : Array Value))) hS rfl
  refine wpAny_bind (wpAny_letGo ?_)
  have up2 : ∀ b o, b ≠ S → t.heap.get? b = some o → (t.heap.update S (Obj.mapSeq (fun _ => (#[] : Array Value)))).get? b = some o := fun b o hb e => (Heap.get?_update_other _ _ (Ne.symm hb)).trans e
  generalize t.heap.update S (Obj.mapSeq (fun _ => (#[] : Array Value))) = h2 at hS2 up2 ⊢
  have dS : d ≠ S := Nat.ne_of_lt dlt
  have xS : x1 ≠ S := Nat.ne_of_lt xlt
  have hm2 : h2.DictAt knd d kvs ep := hm.at' fun o e => up2 _ _ dS (up1 _ _ e)
  have gx2 : h2.get? x1 = some o1 := up2 _ _ xS (up1 _ _ g1)
  -- extend by the dictionary
  have SI : S ≠ h2.objs.size := Nat.ne_of_lt (Heap.lt_size hS2)
  have xI : x1 ≠ h2.objs.size := Nat.ne_of_lt (Heap.lt_size gx2)
  have dI : d ≠ h2.objs.size := Nat.ne_of_lt hm2.lt_size
  have Sf : S ∉ [h2.objs.size, d, x1] := by simp only [List.mem_cons, List.not_mem_nil, or_false, not_or]; exact ⟨SI, dS.symm, xS.symm⟩
  have W := walks_keysH (knd := knd) (A := A.in1.in1) hh d1 c1 h2.objs.size d dI xI kvs ep
  unfold Builtin.List.listExtendWith
  refine wpAny_bind (wpAny_typeOf (T := "dict") hm2.dictOf.typeIs ?_)
  have n1 : Builtin.List.listSameRef (.ref S) (.ref d) = false := by simp [Builtin.List.listSameRef, dS.symm]
  simp only [n1, show (Value.type "dict" == Value.type "list") = false by decide, show (Value.type "dict" == Value.type "tuple") = false by decide, Bool.or_false, Bool.false_eq_true, if_false]
  refine wpAny_bind (wpAny_pyIter_dict lo hm2 ?_)
  have st : ∀ h : Heap, (∀ b o, b ≠ S → (h2.push { cls := .type "dict_keyiterator", data := .fields #[.ref d, .int 0 0, .int kvs.length 0, .int ep 0] }).get? b = some o → h.get? b = some o) →
      (h.IsKeyIter h2.objs.size d 0 kvs.length ep ∧ h.DictAt knd d kvs ep) ∧ h.get? x1 = some o1 := fun h k =>
    ⟨⟨⟨_, k _ _ SI.symm (Heap.get?_push_size _ rfl), rfl, rfl⟩, hm2.at' fun o e => k _ _ dS (Heap.get?_push_of_some _ e)⟩, k _ _ xS (Heap.get?_push_of_some _ gx2)⟩
  have hS3 := Heap.get?_push_of_some ({ cls := .type "dict_keyiterator", data := .fields #[.ref d, .int 0 0, .int kvs.length 0, .int ep 0] } : Obj) hS2
  have go : ∀ (h : Heap) (c₁ tk : Nat), (∀ b o, b ≠ S → (h2.push { cls := .type "dict_keyiterator", data := .fields #[.ref d, .int 0 0, .int kvs.length 0, .int ep 0] }).get? b = some o → h.get? b = some o) → h.get? S = some { cls := .type "list", data := .seq #[] c₁ } →
      codeAny (model prog w) A.in1 (.builtin "list.extend.loop" ⟨[.ref S, .ref h2.objs.size, .none], []⟩) (wants (fun r s₂ => r = Value.none ∧ Q (.ref S) s₂) E) { t with heap := h, toks := tk } := by
    intro h c₁ tk k hS1
    refine codeAny_extend_loopS W.toS hn S Sf .none kvs.length 0 _ #[] c₁ rfl (Nat.zero_le _) (st h k) hS1 (ItemsOf.nil _) fun s' acc' c' hm' hS' hacc => ?_
    rw [Moved.eq_with hm']
    refine ⟨rfl, fin s'.heap s'.toks acc' c' (fun b o hb e => hm'.heap b o (fun m => ?_) (k b o hb (Heap.get?_push_of_some _ (up2 b o hb e)))) hS' hacc⟩
    rcases List.mem_cons.mp m with e' | m
    · exact hb e'
    · exact absurd (Heap.lt_size (up2 b o hb e)) (by rw [List.mem_singleton.mp m]; exact Nat.lt_irrefl _)
  refine wpAny_bind (wpAny_holding (PySem.W.kdl_hint_dict (hm2.push _).dictOf.typeIs ?_))
  refine wpAny_ite_split (fun _ => ?_) (fun _ => wpAny_pure ⟨plainId_quiet PySem.F.plain_extend_loop _, go _ _ _ (fun b o _ e => e) hS3⟩)
  refine wpAny_bind (wpAny_rule (wpAny_bind ?_))
  show wpAny _ _ (updateSeq S (·.push .none) >>= fun _ => updateSeq S (·.pop)) _ _ _
  refine wpAny_bind (wpAny_updateSeq hS3 rfl ?_)
  have hS4 := Heap.get?_update_self (Obj.mapSeq (·.push Value.none)) hS3 rfl
  refine wpAny_updateSeq (hz := by seq_fits) hS4 rfl ?_
  have hS5 := Heap.get?_update_self (Obj.mapSeq (·.pop)) hS4 rfl
  exact wpAny_pure ⟨plainId_quiet PySem.F.plain_extend_loop _, go _ _ _ (fun b o hb e => (Heap.get?_update_other _ _ (Ne.symm hb)).trans ((Heap.get?_update_other _ _ (Ne.symm hb)).trans e)) hS5⟩
end
section
variable {X : Cx} {e : Addr}
def rListE (e : Addr) : List V → Hp → VK → Prop := fun xs H Q => ∃ (a : Addr) (kvs : List (Key × V)), xs = [.ref a] ∧ Rd H a (.dK kvs) ∧ HotH e H ∧ ∀ p, H p = none → Q (.ref p) (upd H p (.lst (kvs.map fun kv => kV kv.1)))
theorem call_listE (hh : X.A.handled = some (.ref e)) : CallR X (.type "list") (rListE e) := by
  intro pins s σ H xs us Q I r ⟨a, kvs, ex, hd, hot, q⟩
  subst ex
  obtain ⟨u, eu, rx⟩ := vals1 r
  subst eu
  cases rx
  obtain ⟨⟨_, o1, vs1, g1, d1, c1⟩, _⟩ := hot.at_ hh I
  obtain ⟨z, lo, vs, rel, dd⟩ := dk_rd I.hok hd
  obtain ⟨ep, hat⟩ := dd.dictAt
  have ek : (kvs.map fun kv => kV kv.1) = vs.map fun p => kV p.1 := by
    have q := congrArg (List.map kV) rel.keys
    rw [List.map_map, List.map_map] at q
    exact q
  refine list_keysH (knd := mixKind X.prog X.w) hh g1 d1 c1 lo hat (by rw [← rel.length]; exact z) fun h' tk acc c' hk hD hacc => ?_
  have hv : Vals (vs.map fun p => kV p.1) acc.toList := keys_at (by rw [Array.length_toList]; exact hacc.1) fun j v q => hacc.2 j v (by rw [← Array.getElem?_toList]; exact q)
  exact ⟨.ref s.heap.objs.size, upd H s.heap.objs.size (.lst (kvs.map fun kv => kV kv.1)), I.laid (t' := tk) hk (Nat.le_refl _)
    (show ObjOk X.prog X.w _ _ _ (.lst (kvs.map fun kv => kV kv.1)) from ⟨by rw [List.length_map]; exact z, acc.toList, c', by rw [ek]; exact hv, by rw [Array.toArray_toList]; exact hD⟩), rfl, q _ (I.hok.fresh (Nat.le_refl _))⟩
end
end HX

namespace HX
open PySem PySem.Spec PyProof.Rows L2 L2H KT HotX
open PySem.W (Frag)
/-! ### (a, b, ..) = a tuple, while an error is handled -/
def gTupE (e : Addr) (K : Frag) (n : Nat) (t : TGs) : TG := fun v σ H Q => ∃ a xs, v = .ref a ∧ SqT K H a xs ∧ xs.length = n ∧ HotH e H ∧ t xs σ H Q
section
variable {X : Cx} {e : Addr} {pos : Pos}
theorem pg_tupE {es : List Expr} {k : Nat} {t : TGs} {n : Nat} (hh : X.A.handled = some (.ref e)) (h : PGs X es t)
    (hn : (assignEach es X.env).length = n := by rfl) (hst : (assignEach es X.env).findIdx? (·.1) = none := by rfl) : PG X (.Tuple es k pos) (gTupE e X.K n t) := by
  refine ⟨fun pins s σ H v u Q I r ⟨a, xs, e1, hq, hl, hot, hw⟩ => ?_⟩
  subst e1
  cases r
  obtain ⟨its, rv, ht, hz⟩ := I.tuple hq
  rw [assign_Tuple]
  refine wpAny_bind (wpAny_standAt ?_)
  unfold unpack
  have el : (assignEach es X.env).length = its.toArray.size := by simp [hn, ← hl, rv.length]
  rw [el, hst]
  refine wpAny_bind (wpAny_holding (XN.unpack_tuple_hot (hot.at_ hh I).1 ht fun h' hx => ?_))
  have I1 : Inv X pins σ H { s with heap := h' } := I.kept (t' := s.toks) fun b o q => hx b o (Nat.ne_of_lt (Heap.lt_size q)) q
  exact h.run pins _ σ H xs _ Q I1 (by simpa using rv) hw
end
end HX

namespace Q4
open PySem PySem.Spec PyProof.Rows L2 L2H KT LamX HX
open PySem.W (Frag)
theorem hu_ofH {A : Around} {k : Nat} (hr : RoomH k A) : A.units + 1 < cLine := by have := hr.un; omega
section
variable {P : Program} {w : World} {K : Frag} {mg : Str → Option Value} {base : Heap} {e : Addr}
/-! ### _law_exact of any data, while an error is handled -/
def spExactE (e : Addr) (n : Nat) : Sp := fun vs H Q _ => ∃ v v' x, vs = [v, v'] ∧ OAt H v x ∧ OG R1 H v' x ∧ x.wf = true ∧ x.dep ≤ n ∧ HotH e H ∧ ∀ H', Same H H' → Q (.bl true) H'
theorem fn_vacE {f : Addr} {fd : FuncData} {ps : List Str} : FnE e P w K mg base CX0 0 f fd ps (fun _ _ _ _ => False) := ⟨fun _ _ _ _ h => h.elim, fun _ _ _ _ _ _ _ _ _ _ _ _ _ _ h => h.elim⟩
theorem exactE_step {f : Addr} {fd : FuncData} (T : Top K mg "_law_exact" sLExact pLExact f fd) (B : Blt mg) {n m : Nat} {sp' : Sp} (GP : FnE e P w K mg base CX0 m f fd pLExact sp')
    (hsp : ∀ v v' x H Q, OAt H v x → OG R1 H v' x → x.wf = true → x.dep + 1 ≤ n → HotH e H → (∀ H', Same H H' → Q (.bl true) H') → sp' [v, v'] H Q L2.E0) : FnE e P w K mg base CX0 (m + 1) f fd pLExact (spExactE e n) := by
  refine okE T.F scLExact (fun vs H Q E h => ?_) (fun cdv A outer s H vs Q E hh hr h => ?_)
  · obtain ⟨_, _, _, rfl, _⟩ := h
    rfl
  · have hu := hu_ofH hr
    obtain ⟨v, v', x, rfl, h1, h2, hw, hn, hot, k⟩ := h
    refine ⟨_, (pss_cons (ps_if (pt_val (pe_callB call_isiT (by rfl) B.isi (by decide +kernel) (pa_cons (pv 0) (pa_cons (pe_tup (pa_cons (pe_bltn (v := .ty "list") (by rfl) B.list (by decide +kernel) rfl) (pa_cons (pe_bltn (v := .ty "tuple") (by rfl) B.tuple (by decide +kernel) rfl) pa_nil))) pa_nil)))) (pss_cons (ps_set (i := 2) scLExact.nd rfl (Or.inl rfl) (pe_and (pe_cmpR op_eq (pe_callB call_isi (by rfl) B.isi (by decide +kernel) (pa_cons (pv 1) (pa_cons (pe_bltn (v := .ty "list") (by rfl) B.list (by decide +kernel) rfl) pa_nil))) (pe_callB call_isi (by rfl) B.isi (by decide +kernel) (pa_cons (pv 0) (pa_cons (pe_bltn (v := .ty "list") (by rfl) B.list (by decide +kernel) rfl) pa_nil))) (nomark _)) (pe_one (pe_cmpR op_eq (pe_callB call_isi (by rfl) B.isi (by decide +kernel) (pa_cons (pv 1) (pa_cons (pe_bltn (v := .ty "tuple") (by rfl) B.tuple (by decide +kernel) rfl) pa_nil))) (pe_callB call_isi (by rfl) B.isi (by decide +kernel) (pa_cons (pv 0) (pa_cons (pe_bltn (v := .ty "tuple") (by rfl) B.tuple (by decide +kernel) rfl) pa_nil))) (nomark _)))))
      (pss_one (ps_ret (pe_and (pv 2) (pe_and (pe_cmpR op_eq (pe_callB call_len_seq (by rfl) B.len PySem.boot_len (pa_cons (pv 0) pa_nil)) (pe_callB call_len_seq (by rfl) B.len PySem.boot_len (pa_cons (pv 1) pa_nil)) (nomark _)) (pe_one (pe_callB (cr_allE (e := e) hh) (by rfl) B.all (by decide +kernel) (pa_cons (pe_lcE (e := e) (own := [("a", 3), ("b", 4)]) (g := gTupE e K 2 (gCons (gName 3) (gCons (gName 4) gNil))) (tt := tYes) hh scLExact.nd (pi_zipE (by rfl) B.zip (pa_cons (pv 0) (pa_cons (pv 1) pa_nil))) (blkOk_by (N := nLExact) (sc := defScope sLExact) (by decide +kernel)) (fun _ _ _ _ _ => pg_tupE (e := e) hh (pgs_cons (pg_name (i := 3) scLExact.nd rfl (Or.inl rfl)) (pgs_cons (pg_name (i := 4) scLExact.nd rfl (Or.inl rfl)) pgs_nil))) (fun _ _ _ _ _ => pts_nil)
            (fun _ _ _ _ _ => (pe_callE GP hr hh rfl T.g T.F.kp T.b pass0 (pa_cons (pv 3) (pa_cons (pv 4) pa_nil))))) pa_nil)))))))) pss_nil)
      (pss_cons (ps_if (pt_val (pe_callB call_isi (by rfl) B.isi (by decide +kernel) (pa_cons (pv 0) (pa_cons (pe_bltn (v := .ty "dict") (by rfl) B.dict (by decide +kernel) rfl) pa_nil)))) (pss_cons (ps_set (i := 2) scLExact.nd rfl (Or.inl rfl) (pe_and (pe_callB call_isi (by rfl) B.isi (by decide +kernel) (pa_cons (pv 1) (pa_cons (pe_bltn (v := .ty "dict") (by rfl) B.dict (by decide +kernel) rfl) pa_nil))) (pe_one (pe_callE GP hr hh rfl T.g T.F.kp T.b pass0 (pa_cons (pe_callTy (call_listE (e := e) hh) (by rfl) B.list (by decide +kernel) (pa_cons (pv 0) pa_nil)) (pa_cons (pe_callTy (call_listE (e := e) hh) (by rfl) B.list (by decide +kernel) (pa_cons (pv 1) pa_nil)) pa_nil))))))
      (pss_one (ps_ret (pe_and (pv 2) (pe_one (pe_callB (cr_allE (e := e) hh) (by rfl) B.all (by decide +kernel) (pa_cons (pe_lock (pe_lcE (e := e) (own := [("key", 5)]) (g := gName 5) (tt := tYes) hh scLExact.nd (pi_keysE (pv 0)) (blkOk_by (N := nLExact) (sc := defScope sLExact) (by decide +kernel)) (fun _ _ _ _ _ => pg_name (i := 5) scLExact.nd rfl (Or.inl rfl)) (fun _ _ _ _ _ => pts_nil)
            (fun _ _ _ _ _ => (pe_callE GP hr hh rfl T.g T.F.kp T.b pass0 (pa_cons (pe_dget hu (pv 0) (pv 5) (fun _ _ => rfl)) (pa_cons (pe_dget hu (pv 1) (pv 5) (fun _ _ => rfl)) pa_nil)))))) pa_nil))))))) pss_nil)
      (pss_cons (ps_set (i := 2) scLExact.nd rfl (Or.inl rfl) (pe_cmpR op_eq (pe_callB call_isi (by rfl) B.isi (by decide +kernel) (pa_cons (pv 0) (pa_cons (pe_bltn (v := .ty "int") (by rfl) B.int (by decide +kernel) rfl) pa_nil))) (pe_callB call_isi (by rfl) B.isi (by decide +kernel) (pa_cons (pv 1) (pa_cons (pe_bltn (v := .ty "int") (by rfl) B.int (by decide +kernel) rfl) pa_nil))) (nomark _)))
      (pss_one (ps_ret (pe_and (pv 2) (pe_and (pe_cmpR op_eq (pe_callB call_isi (by rfl) B.isi (by decide +kernel) (pa_cons (pv 0) (pa_cons (pe_bltn (v := .ty "bool") (by rfl) B.bool_ (by decide +kernel) rfl) pa_nil))) (pe_callB call_isi (by rfl) B.isi (by decide +kernel) (pa_cons (pv 1) (pa_cons (pe_bltn (v := .ty "bool") (by rfl) B.bool_ (by decide +kernel) rfl) pa_nil))) (nomark _)) (pe_one (pe_cmpR op_eq (pv 0) (pv 1) (nomark _)))))))))), ?_⟩
    rcases O.scl h1 h2 with ⟨rfl, hs⟩ | hbx
    · obtain ⟨c, bi, bb, ty, k1, k2, k3, k4, sc⟩ := scl_ty (K := K) hs
      refine ⟨v', rfl, by show 2 ≤ sizeLine; rw [sizeLine_eq]; omega, fun p hp => ⟨v', p, _, _, _, false, rfl, upd_same, .cons (.ty "list") (.cons (.ty "tuple") .nil), ty _, k1, false, rfl, iteF ?_⟩⟩
      refine ⟨_, rfl, _, _, _, _, false, rfl, .ty "dict", ty _, k2, false, rfl, iteF ?_⟩
      refine ⟨_, rfl, _, _, _, _, bi, rfl, .ty "int", ty _, k3, _, rfl, _, _, _, _, bi, rfl, .ty "int", ty _, k3, rfl, ?_⟩
      refine ⟨_, rfl, true, congrArg V.bl (decide_eq_true rfl), ?_⟩
      refine ⟨_, rfl, _, _, _, _, bb, rfl, .ty "bool", ty _, k4, _, rfl, _, _, _, _, bb, rfl, .ty "bool", ty _, k4, rfl, true, congrArg V.bl (decide_eq_true rfl), ?_⟩
      refine ⟨_, rfl, _, rfl, sc, ?_⟩
      have e : decide (v' = v') = true := decide_eq_true rfl
      rw [e]
      exact k _ (same_upd hp)
    cases h1 with
    | s hz => exact absurd hbx Bool.false_ne_true
    | i n => exact absurd hbx Bool.false_ne_true
    | b n => exact absurd hbx Bool.false_ne_true
    | o => exact absurd hbx Bool.false_ne_true
    | @l _ a xs ds ea hx =>
      cases h2 with
      | @l _ a' ys _ eb hy =>
        have lx := hx.length
        have ly := hy.length
        have hw' : decide (ds.length ≤ 1000) = true ∧ owfAll ds = true := by
          rw [O.wf] at hw
          exact Bool.and_eq_true_iff.mp hw
        have l4 := of_decide_eq_true hw'.1
        have tyA : ∀ p, H p = none → ∀ b zs, H b = some (.lst zs) → TyX K (upd H p (.tup [.ty "list", .ty "tuple"])) (.ref b) (.type "list") := fun p hp b zs e => .base (.lst (show upd H p _ b = _ by rw [upd_ne (ne_of_none e hp)]; exact e))
        refine ⟨.ref a, rfl, by show 2 ≤ sizeLine; rw [sizeLine_eq]; omega, fun p hp => ⟨.ref a, p, _, _, _, true, rfl, upd_same, .cons (.ty "list") (.cons (.ty "tuple") .nil), tyA p hp a xs ea, kitAny_cons (b := true) (kit_ty (by decide +kernel)) (fun z => by cases z) (fun _ => rfl), true, rfl, iteT ?_⟩⟩
        have s1 : Same H (upd H p (.tup [.ty "list", .ty "tuple"])) := same_upd hp
        refine ⟨_, rfl, _, _, _, _, true, rfl, .ty "list", tyA p hp a' ys eb, kit_ty (by decide +kernel), _, rfl, _, _, _, _, true, rfl, .ty "list", tyA p hp a xs ea, kit_ty (by decide +kernel), rfl, true, congrArg V.bl (decide_eq_true rfl), ?_⟩
        refine ⟨_, rfl, _, _, _, _, false, rfl, .ty "tuple", tyA p hp a' ys eb, kit_ty (by decide +kernel), _, rfl, _, _, _, _, false, rfl, .ty "tuple", tyA p hp a xs ea, kit_ty (by decide +kernel), rfl, ?_⟩
        refine ⟨_, rfl, true, congrArg V.bl (decide_eq_true rfl), ?_⟩
        refine ⟨_, rfl, a, xs, rfl, .inl (SqL.of (s1 _ _ ea)), _, rfl, a', ys, rfl, .inl (SqL.of (s1 _ _ eb)), rfl, true, congrArg V.bl (decide_eq_true (by rw [lx, ly])), ?_⟩
        refine ⟨_, rfl, _, rfl, a, a', xs, ys, rfl, .inl ⟨SqL.of (s1 _ _ ea), SqL.of (s1 _ _ eb), fun D hD => ?_⟩⟩
        have sD : Same H (upd (upd H p (.tup [.ty "list", .ty "tuple"])) D (.lst [])) := s1.trans (same_upd hD)
        have nHD : H D = none := s1.free hD
        refine lc_it (walk_hot (e := e) (walk_zip (n := xs.length) (by omega))) (fun i H' => Same H H' ∧ H' D = some (.lst (List.replicate i (.bl true)))) ⟨sD, upd_same⟩ (fun i H' _ q => ⟨⟨SqL.of (q.1 _ _ ea), SqL.of (q.1 _ _ eb)⟩, hot.same q.1⟩) ?_ ?_
        · rintro i x H' H2 hi ⟨sI, eD⟩ ⟨Tp, x1, x2, rfl, nT, rfl, g1, g2⟩
          have s2 : Same H' (upd H' Tp (.tup [x1, x2])) := same_upd nT
          obtain ⟨d1, e1, o1⟩ := hx.at_ g1
          obtain ⟨d2, e2, o2⟩ := hy.at_ g2
          obtain rfl := Option.some.inj (e1.symm.trans e2)
          refine ⟨Tp, _, rfl, SqT.of upd_same, rfl, hot.same (sI.trans s2), _, _, rfl, _, _, rfl, rfl, rfl, ?_⟩
          refine ⟨_, rfl, _, rfl, hsp _ _ _ _ _ ((o1.same rm_sub).same (sI.trans s2)) (o2.extR (extR_same (fun b o e => (sI.trans s2) b o (rm_sub b o e)))) (owfAll_at hw'.2 e1) (by have := odepAll_at e1; simp only [O.dep] at hn; omega) (hot.same (sI.trans s2)) fun H3 s3 => ⟨_, s3 _ _ (s2 _ _ eD), by rw [List.length_replicate, sizeLine_eq]; omega, ?_, ?_⟩⟩
          · exact same_over ((sI.trans s2).trans s3) nHD
          · rw [upd_same, ← List.replicate_succ']
        · rintro H' ⟨sI, eD⟩
          refine ⟨D, List.replicate xs.length true, rfl, SqL.of (by rw [eD, List.map_replicate]), hot.same sI, ?_⟩
          have e : (List.replicate xs.length true).all id = true := by
            rw [List.all_eq_true]
            intro b hb
            exact (List.mem_replicate.mp hb).2
          rw [e]
          exact k _ sI
    | @t _ a xs ds ea hx =>
      cases h2 with
      | @t _ a' ys _ eb hy =>
        have lx := hx.length
        have ly := hy.length
        have hw' : decide (ds.length ≤ 1000) = true ∧ owfAll ds = true := by
          rw [O.wf] at hw
          exact Bool.and_eq_true_iff.mp hw
        have l4 := of_decide_eq_true hw'.1
        have tyA : ∀ p, H p = none → ∀ b zs, H b = some (.tup zs) → TyX K (upd H p (.tup [.ty "list", .ty "tuple"])) (.ref b) (.type "tuple") := fun p hp b zs e => .base (.tup (show upd H p _ b = _ by rw [upd_ne (ne_of_none e hp)]; exact e))
        refine ⟨.ref a, rfl, by show 2 ≤ sizeLine; rw [sizeLine_eq]; omega, fun p hp => ⟨.ref a, p, _, _, _, true, rfl, upd_same, .cons (.ty "list") (.cons (.ty "tuple") .nil), tyA p hp a xs ea, kitAny_cons (b := false) (kit_ty (by decide +kernel)) (fun _ => kitAny_cons (b := true) (kit_ty (by decide +kernel)) (fun z => by cases z) (fun _ => rfl)) (fun z => by cases z), true, rfl, iteT ?_⟩⟩
        have s1 : Same H (upd H p (.tup [.ty "list", .ty "tuple"])) := same_upd hp
        refine ⟨_, rfl, _, _, _, _, false, rfl, .ty "list", tyA p hp a' ys eb, kit_ty (by decide +kernel), _, rfl, _, _, _, _, false, rfl, .ty "list", tyA p hp a xs ea, kit_ty (by decide +kernel), rfl, true, congrArg V.bl (decide_eq_true rfl), ?_⟩
        refine ⟨_, rfl, _, _, _, _, true, rfl, .ty "tuple", tyA p hp a' ys eb, kit_ty (by decide +kernel), _, rfl, _, _, _, _, true, rfl, .ty "tuple", tyA p hp a xs ea, kit_ty (by decide +kernel), rfl, ?_⟩
        refine ⟨_, rfl, true, congrArg V.bl (decide_eq_true rfl), ?_⟩
        refine ⟨_, rfl, a, xs, rfl, .inr (SqT.of (s1 _ _ ea)), _, rfl, a', ys, rfl, .inr (SqT.of (s1 _ _ eb)), rfl, true, congrArg V.bl (decide_eq_true (by rw [lx, ly])), ?_⟩
        refine ⟨_, rfl, _, rfl, a, a', xs, ys, rfl, .inr ⟨SqT.of (s1 _ _ ea), SqT.of (s1 _ _ eb), fun D hD => ?_⟩⟩
        have sD : Same H (upd (upd H p (.tup [.ty "list", .ty "tuple"])) D (.lst [])) := s1.trans (same_upd hD)
        have nHD : H D = none := s1.free hD
        refine lc_it (walk_hot (e := e) (walk_zipT (n := xs.length) (by omega))) (fun i H' => Same H H' ∧ H' D = some (.lst (List.replicate i (.bl true)))) ⟨sD, upd_same⟩ (fun i H' _ q => ⟨⟨SqT.of (q.1 _ _ ea), SqT.of (q.1 _ _ eb)⟩, hot.same q.1⟩) ?_ ?_
        · rintro i x H' H2 hi ⟨sI, eD⟩ ⟨Tp, x1, x2, rfl, nT, rfl, g1, g2⟩
          have s2 : Same H' (upd H' Tp (.tup [x1, x2])) := same_upd nT
          obtain ⟨d1, e1, o1⟩ := hx.at_ g1
          obtain ⟨d2, e2, o2⟩ := hy.at_ g2
          obtain rfl := Option.some.inj (e1.symm.trans e2)
          refine ⟨Tp, _, rfl, SqT.of upd_same, rfl, hot.same (sI.trans s2), _, _, rfl, _, _, rfl, rfl, rfl, ?_⟩
          refine ⟨_, rfl, _, rfl, hsp _ _ _ _ _ (o1.same (sI.trans s2)) (o2.extR (extR_same (sI.trans s2))) (owfAll_at hw'.2 e1) (by have := odepAll_at e1; simp only [O.dep] at hn; omega) (hot.same (sI.trans s2)) fun H3 s3 => ⟨_, s3 _ _ (s2 _ _ eD), by rw [List.length_replicate, sizeLine_eq]; omega, ?_, ?_⟩⟩
          · exact same_over ((sI.trans s2).trans s3) nHD
          · rw [upd_same, ← List.replicate_succ']
        · rintro H' ⟨sI, eD⟩
          refine ⟨D, List.replicate xs.length true, rfl, SqL.of (by rw [eD, List.map_replicate]), hot.same sI, ?_⟩
          have e : (List.replicate xs.length true).all id = true := by
            rw [List.all_eq_true]
            intro b hb
            exact (List.mem_replicate.mp hb).2
          rw [e]
          exact k _ sI
    | @d _ a kvs ds ea hx =>
      cases h2 with
      | @d _ a' kvs' _ eb hy =>
        have lx := hx.length
        have ly := hy.length
        have hw' : ds.length ≤ 1000 ∧ (ds.map (·.1)).Nodup ∧ owfKs ds = true := by
          rw [O.wf] at hw
          obtain ⟨w1, w2⟩ := Bool.and_eq_true_iff.mp hw
          obtain ⟨w3, w4⟩ := Bool.and_eq_true_iff.mp w1
          exact ⟨of_decide_eq_true w3, of_decide_eq_true w4, w2⟩
        obtain ⟨l4, nd, wk⟩ := hw'
        have lk := hx.klen
        have ea0 : H a = some (.dK kvs) := ea
        have tyA : ∀ p, H p = none → ∀ b zs, R1 H b zs → TyX K (upd H p (.tup [.ty "list", .ty "tuple"])) (.ref b) (.type "dict") := fun p hp b zs e => e.elim (fun e => .base (.dK (show upd H p _ b = _ by rw [upd_ne (ne_of_none e hp)]; exact e))) fun ⟨o, e⟩ => .fDict (o := o) (show upd H p _ b = _ by rw [upd_ne (ne_of_none e hp)]; exact e)
        refine ⟨.ref a, rfl, by show 2 ≤ sizeLine; rw [sizeLine_eq]; omega, fun p hp => ⟨.ref a, p, _, _, _, false, rfl, upd_same, .cons (.ty "list") (.cons (.ty "tuple") .nil), tyA p hp a kvs (.inl ea), kitAny_cons (b := false) (kit_ty (by decide +kernel)) (fun _ => kitAny_cons (b := false) (kit_ty (by decide +kernel)) (fun _ => kitAny_nil) (fun z => by cases z)) (fun z => by cases z), false, rfl, iteF ?_⟩⟩
        have s1 : Same H (upd H p (.tup [.ty "list", .ty "tuple"])) := same_upd hp
        refine ⟨_, rfl, _, _, _, _, true, rfl, .ty "dict", tyA p hp a kvs (.inl ea), kit_ty (by decide +kernel), true, rfl, iteT ?_⟩
        refine ⟨_, rfl, _, _, _, _, true, rfl, .ty "dict", tyA p hp a' kvs' eb, kit_ty (by decide +kernel), true, rfl, ?_⟩
        have ea1 : upd H p (.tup [.ty "list", .ty "tuple"]) a = some (.dK kvs) := s1 _ _ ea0
        have eb1 : R1 (upd H p (.tup [.ty "list", .ty "tuple"])) a' kvs' := (extR_same s1).d eb
        have hx1 : OkAt (rm (upd H p (.tup [.ty "list", .ty "tuple"])) a) kvs ds := hx.ext (rm_ext (same_ext s1))
        have hy1 : OkG R1 (rm (upd H p (.tup [.ty "list", .ty "tuple"])) a') kvs' ds := hy.mv mv_R (extR_rm (extR_same s1))
        generalize upd H p (.tup [.ty "list", .ty "tuple"]) = H1 at s1 ea1 eb1 hx1 hy1 ⊢
        have kx := hx.keys
        have ky := hy.keys
        have rdn : ∀ {G : Hp} {q : Addr} {o : HO} {b : Addr} {us : List (Key × V)}, G q = none → R1 G b us → R1 (upd G q o) b us := fun {G q o b us} hq e => (extR_same (same_upd hq)).d e
        refine ⟨_, rfl, a, kvs, rfl, .inl ea1, hot.same s1, fun q1 hq1 => ⟨_, rfl, a', kvs', rfl, rdn hq1 eb1, hot.same (s1.trans (same_upd hq1)), fun q2 hq2 => ?_⟩⟩
        have s2 : Same H1 (upd H1 q1 (.lst (kvs.map fun kv => kV kv.1))) := same_upd hq1
        have s3 : Same (upd H1 q1 (.lst (kvs.map fun kv => kV kv.1))) (upd (upd H1 q1 (.lst (kvs.map fun kv => kV kv.1))) q2 (.lst (kvs'.map fun kv => kV kv.1))) := same_upd hq2
        have e1 := s3 _ _ (show upd H1 q1 (.lst (kvs.map fun kv => kV kv.1)) q1 = _ from upd_same)
        have e2 : upd (upd H1 q1 (.lst (kvs.map fun kv => kV kv.1))) q2 (.lst (kvs'.map fun kv => kV kv.1)) q2 = _ := upd_same
        have s23 := s2.trans s3
        generalize upd (upd H1 q1 (.lst (kvs.map fun kv => kV kv.1))) q2 (.lst (kvs'.map fun kv => kV kv.1)) = H2 at e1 e2 s23 ⊢
        rw [kx] at e1
        rw [ky] at e2
        have keysAt : ∀ (R : RK) (G : Hp) (es : List (Key × O)), (∀ kd ∈ es, kok kd.1) → OsG R G (es.map fun kd => kV kd.1) (es.map fun kd => kO kd.1) := by
          intro R G es
          induction es with
          | nil => intro _; exact .nil
          | cons x r ih => intro hl; exact .cons (kO_at (hl x List.mem_cons_self)) (ih fun kd h => hl kd (List.mem_cons_of_mem _ h))
        have kdep : ∀ es : List (Key × O), odepAll (es.map fun kd => kO kd.1) = 0 := by
          intro es
          induction es with
          | nil => rfl
          | cons x r ih => simp only [List.map_cons, odepAll, kO_dep, ih]; rfl
        have kwf : ∀ es : List (Key × O), owfAll (es.map fun kd => kO kd.1) = true := by
          intro es
          induction es with
          | nil => rfl
          | cons x r ih => simp only [List.map_cons, owfAll, kO_wf, ih]; rfl
        refine hsp _ _ (.l (ds.map fun kd => kO kd.1)) _ _ (.l e1 (keysAt _ _ _ lk)) (.l e2 (keysAt _ _ _ lk)) ?_ ?_ (hot.same (s1.trans s23)) fun H4 s4 => ?_
        · rw [O.wf, kwf, List.length_map, decide_eq_true l4]
          rfl
        · rw [O.dep, kdep]
          simp only [O.dep] at hn
          omega
        have ea4 : H4 a = some (.dK kvs) := s4 _ _ (s23 _ _ ea1)
        have eb4 : R1 H4 a' kvs' := (extR_same (s23.trans s4)).d eb1
        have hx4 : OkAt (rm H4 a) kvs ds := hx1.ext (rm_ext (same_ext (s23.trans s4)))
        have hy4 : OkG R1 (rm H4 a') kvs' ds := hy1.mv mv_R (extR_rm (extR_same (s23.trans s4)))
        have s04 : Same H H4 := s1.trans (s23.trans s4)
        refine ⟨_, rfl, true, rfl, a, .dK kvs, ea4, trivial, fun od => ⟨_, rfl, a, od, kvs, rfl, upd_same, fun D hD => ?_⟩⟩
        have nDa : a ≠ D := ne_of_none upd_same hD
        have nHD : H4 D = none := by
          rw [upd_ne nDa.symm] at hD
          exact hD
        have hotL : HotH e (upd H4 a (.frz od (.dK kvs))) := by
          obtain ⟨cls, d, q⟩ := hot.same s04
          exact ⟨cls, d, by rw [upd_ne (fun z => by rw [z, ea4] at q; cases q)]; exact q⟩
        refine lc_it (walk_hot (e := e) walk_keys) (fun i H' => Same (upd H4 a (.frz od (.dK kvs))) H' ∧ H' D = some (.lst (List.replicate i (.bl true)))) ⟨same_upd hD, upd_same⟩ (fun i H' _ q => ⟨q.1 _ _ upd_same, hotL.same q.1⟩) ?_ ?_
        · rintro i x H' H2' hi ⟨sI, eD⟩ ⟨rfl, k0, v0, ek, rfl⟩
          obtain ⟨z, d, e5, rfl, _⟩ := hx4.at_ ek
          obtain ⟨v1, g1, o1⟩ := hx4.key nd e5
          obtain ⟨v2, g2, o2⟩ := hy4.key nd e5
          have rb : Rd H2' a' (.dK kvs') := by
            by_cases z : a' = a
            · rw [z] at eb4 ⊢
              rcases eb4 with e | ⟨o, e⟩
              · rw [ea4] at e
                cases e
                exact .inr ⟨od, sI _ _ upd_same⟩
              · rw [ea4] at e
                cases e
            · rcases eb4 with e | ⟨o, e⟩
              · exact .inl (sI _ _ (by rw [upd_ne z]; exact e))
              · exact .inr ⟨o, sI _ _ (by rw [upd_ne z]; exact e)⟩
          refine ⟨rfl, _, rfl, _, rfl, a, v1, rfl, .inl ⟨kvs, k0, .inr ⟨od, sI _ _ upd_same⟩, rfl, g1.symm⟩, _, rfl, _, rfl, a', v2, rfl, .inl ⟨kvs', k0, rb, rfl, g2.symm⟩, ?_⟩
          refine hsp _ _ d _ _ (o1.same (fun b o e => sI _ _ (rm_upd b o e))) ((o2.extR (extR_same rm_sub)).extR ⟨fun e => sI _ _ ((extR_lock ea4).l e), fun e => sI _ _ ((extR_lock ea4).t e), fun e => (extR_same sI).d ((extR_lock ea4).d e)⟩) (owfKs_at wk e5) (by have := odepKs_at e5; simp only [O.dep] at hn; omega) (hotL.same sI) fun H3 s3' => ⟨_, s3' _ _ eD, by rw [List.length_replicate, sizeLine_eq]; have := (List.getElem?_eq_some_iff.mp e5).1; omega, ?_, ?_⟩
          · exact same_over (sI.trans s3') hD
          · rw [upd_same, ← List.replicate_succ']
        · rintro H' ⟨sI, eD⟩
          refine ⟨sI _ _ upd_same, D, List.replicate kvs.length true, rfl, SqL.of (by rw [upd_ne nDa.symm, eD, List.map_replicate]), (by obtain ⟨cls, d, q⟩ := hotL.same sI; exact ⟨cls, d, by rw [upd_ne (fun z => by rw [z, sI _ _ upd_same] at q; cases q)]; exact q⟩), ?_⟩
          have e : (List.replicate kvs.length true).all id = true := by
            rw [List.all_eq_true]
            intro b hb
            exact (List.mem_replicate.mp hb).2
          rw [e]
          refine k _ fun b o q => ?_
          have q4 := s04 _ _ q
          by_cases z : b = a
          · subst z
            rw [ea4] at q4
            rw [upd_same]
            exact q4
          · rw [upd_ne z]
            exact sI _ _ (by rw [upd_ne z]; exact q4)
theorem ok_exactE {f : Addr} {fd : FuncData} (T : Top K mg "_law_exact" sLExact pLExact f fd) (B : Blt mg) : ∀ n : Nat, FnE e P w K mg base CX0 (1 + n) f fd pLExact (spExactE e n)
  | 0 => exactE_step T B (n := 0) fn_vacE (fun _ _ _ _ _ _ _ _ h => absurd h (by omega))
  | n + 1 => exactE_step T B (n := n + 1) (ok_exactE T B n) (fun v v' x H Q h1 h2 hw hd hot k => ⟨v, v', x, rfl, h1, h2, hw, by omega, hot, k⟩)
end
end Q4

namespace Q4
open PySem PySem.Spec PyProof.Rows L2 KT
open PySem.W (Frag)
theorem cps_app (x y : Str) : (x ++ y).cps.toList = x.cps.toList ++ y.cps.toList := TL.tl_append x y
theorem str_ext {x y : Str} (h : x.cps.toList = y.cps.toList) : x = y := by
  apply Str.ext'
  exact Array.toList_inj.mp h
theorem app_assoc (x y z : Str) : x ++ y ++ z = x ++ (y ++ z) := str_ext (by simp only [cps_app, List.append_assoc])
/-- the sign c as a text -/
def ch (c : Nat) : Str := ⟨#[c]⟩
theorem ch_l (c : Nat) : (ch c).cps.toList = [c] := rfl
theorem len_cps (x : Str) : x.length = x.cps.toList.length := by simp [Str.length]
theorem str_len_app (x y : Str) : (x ++ y).length = x.length + y.length := by rw [len_cps, len_cps, len_cps, cps_app, List.length_append]
end Q4

namespace Q4
open PySem PySem.Spec PyProof.Rows L2 KT LamX
open PySem.W (Frag)
/-! ### what the program says of such data -/
def isWordO : O → Bool
  | .s z => isWB z
  | _ => false
def headO : O → Bool
  | .s z => decide (z ∈ sgs)
  | _ => false
/-- what is_kind doesn't go into -/
def O.leafy : O → Bool
  | .t [x, _, _] => !headO x
  | _ => true
inductive OK : O → Bool → Nat → Prop
  | leaf {x : O} : x.leafy = true → OK x (isWordO x) 1
  | node {g : Sg} {x y : O} {a b : Bool} {n m : Nat} : OK x a n → OK y b m → OK (.t [.s g.str, x, y]) (a && b) (n + m + 1)
theorem O.headV {H : Hp} {v : V} {x : O} (h : OAt H v x) : HeadV H v := by
  cases h with
  | s _ => exact .str _
  | i _ => exact .int _
  | b _ => exact .bl _
  | o => exact .non
  | l e _ => exact .lst e
  | t e _ => exact .tup e
  | d e _ => exact .dK e
theorem O.hasT_of {H : Hp} {v : V} {x : O} (h : OAt H v x) : XO.hasT sgs v = headO x := by
  cases h <;> rfl
theorem O.leafV {H : Hp} {v : V} {x : O} (h : OAt H v x) (l : x.leafy = true) : LeafV H v ∧ isWordV v = isWordO x := by
  cases h with
  | s hz => exact ⟨.str _ hz, rfl⟩
  | i _ => exact ⟨.int _, rfl⟩
  | b _ => exact ⟨.bl _, rfl⟩
  | o => exact ⟨.non, rfl⟩
  | l e _ => exact ⟨.lst e, rfl⟩
  | d e _ => exact ⟨.dK e, rfl⟩
  | @t _ p xs ds e hx =>
    refine ⟨?_, rfl⟩
    by_cases c : xs.length = 3
    · match xs, ds, hx, c with
      | [u1, u2, u3], [w1, w2, w3], .cons ha (.cons _ (.cons _ .nil)), _ =>
        refine .odd e (O.headV ha) ?_
        rw [O.hasT_of ha]
        have l' : (!headO w1) = true := l
        cases q : headO w1 with
        | false => rfl
        | true => rw [q] at l'; cases l'
    · exact .tup e c
theorem OK.ov {x : O} {b : Bool} {n : Nat} (k : OK x b n) : ∀ {H : Hp} {v : V}, OAt H v x → OV H v b n := by
  induction k with
  | leaf l =>
    intro H v h
    obtain ⟨a, e⟩ := O.leafV h l
    rw [← e]
    exact .leaf a
  | node _ _ i j =>
    intro H v h
    cases h with
    | t e hx =>
      cases hx with
      | cons h1 r =>
        cases h1
        cases r with
        | cons h2 r =>
          cases r with
          | cons h3 r =>
            cases r
            exact .node e (i h2) (j h3)
theorem OK.word {z : Str} (h : IsW z) : OK (.s z) true 1 := by
  have q := OK.leaf (x := .s z) rfl
  rw [show isWordO (.s z) = true from isWB_of h] at q
  exact q
theorem OK.ty (t : Ty) (h : t.wok) : OK t.ob true t.size := by
  induction t with
  | w z => exact OK.word h
  | n g a b i j =>
    have q := OK.node (g := g) (i h.1) (j h.2)
    rw [Bool.and_self] at q
    have e : a.size + b.size + 1 = (Ty.n g a b).size := by simp only [Ty.size]; omega
    rw [← e]
    exact q
/-- many of them -/
inductive OKs : List O → List Bool → Prop
  | nil : OKs [] []
  | cons {x : O} {b : Bool} {n : Nat} {xs : List O} {bs : List Bool} : OK x b n → n ≤ 1000000 → OKs xs bs → OKs (x :: xs) (b :: bs)
theorem OKs.ovb {xs : List O} {bs : List Bool} (k : OKs xs bs) : ∀ {H : Hp} {vs : List V}, OsAt H vs xs → OVb H vs bs := by
  induction k with
  | nil => intro H vs h; cases h; exact .nil
  | cons a l _ i =>
    intro H vs h
    cases h with
    | cons h1 r => exact .cons (a.ov h1) l (i r)
/-- whether it is a list of types, whether a row -/
inductive RO : O → Bool → Bool → Prop
  | no {x : O} : (∀ xs, x ≠ .l xs) → RO x false false
  | lst {xs : List O} {bs : List Bool} : OKs xs bs → xs.length ≤ 1000 → RO (.l xs) (bs.all id) (bs.all id && decide (0 < xs.length))
theorem O.notL {H : Hp} {v : V} {x : O} (h : OAt H v x) (n : ∀ xs, x ≠ .l xs) : NotL H v := by
  cases h with
  | s _ => exact .str _
  | i _ => exact .int _
  | b _ => exact .bl _
  | o => exact .non
  | l e _ => exact absurd rfl (n _)
  | t e _ => exact .tup e
  | d e _ => exact .dK e
theorem RO.rv {x : O} {a b : Bool} (k : RO x a b) {H : Hp} {v : V} (h : OAt H v x) : RV H v a b := by
  cases k with
  | no n => exact .no (O.notL h n)
  | lst ks l =>
    cases h with
    | l e hx =>
      have el := hx.length
      rw [← el]
      exact .lst e (by omega) (ks.ovb (hx.same rm_sub))
/-! ### expressions that come to such data -/
def Yo (t : TE) (σ : L2.St) (H0 : Hp) (d : O) : Prop := ∀ H, Same H0 H → ∀ Q : VK, (∀ v H', Same H H' → OAt H' v d → Q v H') → t σ H Q
def YoA (t : TA) (σ : L2.St) (H0 : Hp) (ds : List O) : Prop := ∀ H, Same H0 H → ∀ Q : List V → Hp → Prop, (∀ vs H', Same H H' → OsAt H' vs ds → Q vs H') → t σ H Q
theorem yo_var {i : Nat} {σ : L2.St} {H0 : Hp} {v : V} {d : O} (e : σ[i]? = some (some v)) (h : OAt H0 v d) : Yo (tVar i) σ H0 d := fun H s Q q => ⟨v, e, q v H (Same.refl H) (h.same s)⟩
theorem yo_str {σ : L2.St} {H0 : Hp} {z : Str} (ok : z.length ≤ 1000000) : Yo (tC (.str z)) σ H0 (.s z) := fun H _ Q q => q _ H (Same.refl H) (.s ok)
theorem yo_int {σ : L2.St} {H0 : Hp} {n : Int} : Yo (tC (.int n)) σ H0 (.i n) := fun H _ Q q => q _ H (Same.refl H) (.i n)
theorem yo_bl {σ : L2.St} {H0 : Hp} {n : Bool} : Yo (tC (.bl n)) σ H0 (.b n) := fun H _ Q q => q _ H (Same.refl H) (.b n)
theorem yo_non {σ : L2.St} {H0 : Hp} : Yo (tC .non) σ H0 .o := fun H _ Q q => q _ H (Same.refl H) .o
theorem yoa_nil {σ : L2.St} {H0 : Hp} : YoA tNil σ H0 [] := fun H _ Q q => q [] H (Same.refl H) .nil
theorem yoa_cons {t : TE} {tr : TA} {σ : L2.St} {H0 : Hp} {d : O} {ds : List O} (h : Yo t σ H0 d) (hr : YoA tr σ H0 ds) : YoA (tCons t tr) σ H0 (d :: ds) := fun H s Q q =>
  h H s _ fun v H1 s1 hv => hr H1 (s.trans s1) _ fun vs H2 s2 hvs => q (v :: vs) H2 (s1.trans s2) (.cons (hv.same s2) hvs)
theorem yo_tup {t : TA} {σ : L2.St} {H0 : Hp} {ds : List O} (h : YoA t σ H0 ds) (l : ds.length ≤ 100) : Yo (tTup t) σ H0 (.t ds) := fun H s Q q =>
  h H s _ fun vs H1 s1 hvs => ⟨by rw [hvs.length, sizeLine_eq]; omega, fun p np => q _ _ (s1.trans (same_upd np)) (.t upd_same (hvs.same (same_upd np)))⟩
theorem yo_lst {t : TA} {σ : L2.St} {H0 : Hp} {ds : List O} (h : YoA t σ H0 ds) (l : ds.length ≤ 100) : Yo (tLst t) σ H0 (.l ds) := fun H s Q q =>
  h H s _ fun vs H1 s1 hvs => ⟨by rw [hvs.length, sizeLine_eq]; omega, fun p np => q _ _ (s1.trans (same_upd np)) (.l upd_same (hvs.same (rm_new np)))⟩
theorem yo_cat {t u : TE} {σ : L2.St} {H0 : Hp} {ds es : List O} (h : Yo t σ H0 (.l ds)) (h' : Yo u σ H0 (.l es)) (l : ds.length + es.length ≤ 1000) : Yo (tOp rCat t u) σ H0 (.l (ds ++ es)) := fun H s Q q =>
  h H s _ fun a H1 s1 h1 => h' H1 (s.trans s1) _ fun b H2 s2 h2 => by
    cases h1 with
    | @l _ L vs _ e1 d1 =>
      cases h2 with
      | @l _ M us _ e2 d2 =>
        exact ⟨L, M, vs, us, rfl, rfl, s2 _ _ e1, e2, by rw [d1.length, d2.length, sizeLine_eq]; omega, fun p np => q _ _ ((s1.trans s2).trans (same_upd np)) (.l upd_same (((((d1.same rm_sub).same s2).append (d2.same rm_sub))).same (rm_new np)))⟩
theorem yo_d0 {σ : L2.St} {H0 : Hp} : Yo tDNewK σ H0 (.d []) := fun H s Q q p np => q _ _ (same_upd np) (.d upd_same .nil)
theorem yo_d1 {tv : TE} {σ : L2.St} {H0 : Hp} {i : Nat} {z : Str} {d : O} (e : σ[i]? = some (some (.str z))) (lz : z.length ≤ 1000000) (nb : d.box = false) (h : Yo tv σ H0 d) : Yo (tDisp [(tVar i, tv)]) σ H0 (.d [(Sum.inr z, d)]) := fun H s Q q p np =>
  ⟨.str z, e, h _ (s.trans (same_upd np)) _ fun v H1 s1 hv => by
    refine ⟨s1 _ _ upd_same, [(Sum.inr z, v)], rfl, Nat.le_of_ble_eq_true rfl, ?_⟩
    have sH : Same H (upd H1 p (.dK (mergeK [] [(Sum.inr z, v)]))) := same_over ((same_upd np).trans s1) np
    refine q _ _ sH (.d (kvs := [(Sum.inr z, v)]) upd_same (.cons lz ?_ .nil))
    cases hv with
    | s hz => exact .s hz
    | i n => exact .i n
    | b n => exact .b n
    | o => exact .o
    | l _ _ => exact Bool.noConfusion (show true = false from nb)
    | t _ _ => exact Bool.noConfusion (show true = false from nb)
    | d _ _ => exact Bool.noConfusion (show true = false from nb)⟩
abbrev rAddS : R2 := fun x y H Q => ∃ i j, x = .str i ∧ y = .str j ∧ i.length + j.length ≤ sizeLine ∧ Q (.str (i ++ j)) H
theorem yo_add {t u : TE} {σ : L2.St} {H0 : Hp} {x y : Str} (h : Yo t σ H0 (.s x)) (h' : Yo u σ H0 (.s y)) (l : x.length + y.length ≤ 1000000) : Yo (tOp rAddS t u) σ H0 (.s (x ++ y)) := fun H s Q q =>
  h H s _ fun _ H1 s1 h1 => h' H1 (s.trans s1) _ fun _ H2 s2 h2 => by
    cases h1
    cases h2
    exact ⟨x, y, rfl, rfl, by rw [sizeLine_eq]; omega, q _ _ (s1.trans s2) (.s (by rw [str_len_app]; exact l))⟩
theorem yo_set {te : TE} {i : Nat} {u : TS} {D0 : L2.Ends} {σ : L2.St} {H H0 : Hp} {d : O} (y : Yo te σ H0 d) (s : Same H0 H) (q : ∀ v H', Same H H' → OAt H' v d → u D0 (σ.set i (some v)) H') : tSeq (tAsg te (gName i)) u D0 σ H := y H s _ fun v H' s' h => q v H' s' h
theorem yo_ret {te : TE} {D0 : L2.Ends} {σ : L2.St} {H H0 : Hp} {d : O} (y : Yo te σ H0 d) (s : Same H0 H) (q : ∀ v H', Same H H' → OAt H' v d → D0.rt v H') : tRet te D0 σ H := y H s _ fun v H' s' h => q v H' s' h
end Q4

namespace Q4
open PySem PySem.Spec PyProof.Rows L2 KT LamX
open PySem.W (Frag)
/-! ### the law's odd things -/
def oddK (w : Str) : List O := (((((([.o, (.i 0), (.b true), (.s ""), (.s "A"), (.s "abcdefghi"), (.s (w ++ " ")), (.s (w ++ "\n"))] ++ [(.s "a1"), (.l []), (.d []), (.t []), (.t [(.s w)]), (.l [(.s w)]), (.t [(.s "over"), (.s w)]), (.t [(.s "over"), (.s w), (.s w), (.s w)])]) ++ [(.l [(.s "over"), (.s w), (.s w)]), (.t [(.s "Over"), (.s w), (.s w)]), (.t [(.s "above"), (.s w), (.s w)])]) ++ [(.t [.o, (.s w), (.s w)]), (.t [(.l []), (.s w), (.s w)]), (.t [(.d []), (.s w), (.s w)])]) ++ [(.t [(.s "over"), (.s w), .o]), (.t [(.s "over"), (.s ""), (.s w)])]) ++ [(.t [(.s "under"), (.s w), (.l [(.s w)])]), (.t [(.t [(.s "over"), (.s w), (.s w)]), (.s w), (.s w)]), (.t [(.s "then"), (.s w), (.t [(.s "under"), (.s w)])])]) ++ [(.t [(.s "then"), (.t [(.s "over"), (.s w), (.i 5)]), (.s w)]), (.t [(.s "over"), (.s w), (.s (w ++ " "))]), (.d [(Sum.inr (w), (.s w))]), (.t [(.s "word"), (.s w), (.s w)]), (.t [(.s "a"), (.s "over"), (.s w)])])
def oddR (w : Str) : List O := (([.o, (.i 0), (.b true), (.s ""), (.s w), (.t []), (.d [])] ++ [(.t [(.s w)]), (.d [(Sum.inr (w), (.s w))]), (.l [.o]), (.l [(.s w), .o]), (.l [.o, (.s w)]), (.l [(.l [(.s w)])]), (.l [(.s w), (.s "")]), (.l [(.s w), (.s "A"), (.s w)])]) ++ [(.l [(.t [(.s "over"), (.s w)])]), (.l [(.t [(.s "over"), (.s w), (.s w)]), (.s w), (.i 5)]), (.l [(.s w), (.l [(.s w)])]), (.l [(.t [])]), (.l [(.l [])]), (.l [(.d [])]), (.l [(.s w), (.t [(.s "above"), (.s w), (.s w)])])])
section
variable {P : Program} {w_ : World} {K : Frag} {mg : Str → Option Value} {base : Heap}
def spLOddKinds : Sp := fun vs H Q _ => ∃ w : Str, vs = [.str w] ∧ IsW w ∧ ∀ v H', Same H H' → OAt H' v (.l (oddK w)) → Q v H'
def spLOddRows : Sp := fun vs H Q _ => ∃ w : Str, vs = [.str w] ∧ IsW w ∧ ∀ v H', Same H H' → OAt H' v (.l (oddR w)) → Q v H'
end
end Q4

namespace Q4
open PySem PySem.Spec PyProof.Rows L2 KT LamX
open PySem.W (Frag)
/-! ### the odd things are no types, no rows -/
def inS (g : Str) : Bool := decide (g ∈ sgs)
def kdO : Nat → O → Bool
  | f + 1, .t [.s g, x, y] => inS g && (kdO f x && kdO f y)
  | _, x => isWordO x
theorem inS_sg {g : Str} (h : inS g = true) : ∃ s : Sg, g = s.str := by
  have m := of_decide_eq_true h
  simp only [sgs, List.mem_cons, List.not_mem_nil, or_false] at m
  rcases m with rfl | rfl | rfl
  · exact ⟨.ov, rfl⟩
  · exact ⟨.th, rfl⟩
  · exact ⟨.un, rfl⟩
theorem kdO_ok : ∀ (f : Nat) (x : O), x.dep ≤ f → ∃ n, n + 1 ≤ 2 ^ (f + 1) ∧ OK x (kdO f x) n := by
  intro f
  induction f with
  | zero =>
    intro x h
    refine ⟨1, by decide, ?_⟩
    have e : kdO 0 x = isWordO x := by cases x <;> rfl
    rw [e]
    refine .leaf ?_
    cases x with
    | t xs => simp [O.dep] at h
    | _ => rfl
  | succ f ih =>
    intro x h
    have p2 : 2 ^ (f + 1 + 1) = 2 ^ (f + 1) + 2 ^ (f + 1) := by rw [Nat.pow_succ]; omega
    have leaf : x.leafy = true → kdO (f + 1) x = isWordO x → ∃ n, n + 1 ≤ 2 ^ (f + 1 + 1) ∧ OK x (kdO (f + 1) x) n := fun l e => by
      refine ⟨1, ?_, ?_⟩
      · have : 1 ≤ 2 ^ (f + 1) := Nat.one_le_two_pow
        omega
      · rw [e]; exact .leaf l
    cases x with
    | t xs =>
      match xs, h, leaf with
      | [.s g, a1, a2], h, leaf =>
        cases c : inS g with
        | false =>
          have e : kdO (f + 1) (.t [.s g, a1, a2]) = false := by show (inS g && _) = false; rw [c]; rfl
          refine leaf ?_ e
          show (!headO (.s g)) = true
          have : headO (.s g) = inS g := rfl
          rw [this, c]
          rfl
        | true =>
          obtain ⟨sg, rfl⟩ := inS_sg c
          have hd : a1.dep ≤ f ∧ a2.dep ≤ f := by
            simp only [O.dep, odepAll] at h
            omega
          obtain ⟨n, hn, k1⟩ := ih a1 hd.1
          obtain ⟨m, hm, k2⟩ := ih a2 hd.2
          refine ⟨n + m + 1, by omega, ?_⟩
          have e : kdO (f + 1) (.t [.s sg.str, a1, a2]) = (kdO f a1 && kdO f a2) := by
            show (inS sg.str && _) = _
            rw [c, Bool.true_and]
          rw [e]
          exact .node k1 k2
      | [], h, leaf => exact leaf rfl rfl
      | [a1], h, leaf => exact leaf rfl (by cases a1 <;> rfl)
      | [a1, a2], h, leaf => exact leaf rfl (by cases a1 <;> rfl)
      | [.i _, _, _], h, leaf => exact leaf rfl rfl
      | [.b _, _, _], h, leaf => exact leaf rfl rfl
      | [.o, _, _], h, leaf => exact leaf rfl rfl
      | [.l _, _, _], h, leaf => exact leaf rfl rfl
      | [.t _, _, _], h, leaf => exact leaf rfl rfl
      | [.d _, _, _], h, leaf => exact leaf rfl rfl
      | a1 :: _ :: _ :: _ :: _, h, leaf => exact leaf rfl (by cases a1 <;> rfl)
    | _ => exact leaf rfl rfl
/-- no key is LATER -/
def O.nl : O → Bool
  | .d ks => decide (ks.length ≤ 900) && ks.all fun kd => decide (kd.1 ≠ Sum.inr ("LATER" : Str))
  | .l xs => decide (xs.length ≤ 900)
  | _ => true
/-- an odd thing that may be handed to _law_very -/
def O.fine (x : O) : Bool := x.wf && decide (x.dep ≤ 8) && x.nl
theorem wb_lit : isWB "" = false ∧ isWB "A" = false ∧ isWB "abcdefghi" = false ∧ isWB "a1" = false := by decide +kernel
theorem wb_end {z : Str} {c : Nat} (h : ¬ (97 ≤ c ∧ c ≤ 122)) : isWB (z ++ ch c) = false := by
  cases e : isWB (z ++ ch c) with
  | false => rfl
  | true =>
    have w := isWB_ok e
    have m : c ∈ (z ++ ch c).cps.toList := by rw [cps_app]; simp [ch_l]
    exact absurd (w.2.2 c m) h
theorem wb_sp {z : Str} : isWB (z ++ " ") = false := wb_end (c := 32) (by omega)
theorem wb_nl {z : Str} : isWB (z ++ "\n") = false := wb_end (c := 10) (by omega)
theorem later_no {w : Str} (h : IsW w) : ("LATER" : Str) ≠ w := fun e => by
  have q := h.2.2 76 (by rw [← e]; decide +kernel)
  omega
theorem inS_lit : inS "over" = true ∧ inS "under" = true ∧ inS "then" = true ∧ inS "Over" = false ∧ inS "above" = false ∧ inS "word" = false ∧ inS "a" = false := by decide +kernel
theorem oddK_no {w : Str} (h : IsW w) : ∀ x ∈ oddK w, kdO 3 x = false ∧ x.dep ≤ 3 ∧ x.fine = true := by
  have e0 : isWB w = true := isWB_of h
  obtain ⟨b1, b2, b3, b4⟩ := wb_lit
  obtain ⟨i1, i2, i3, i4, i5, i6, i7⟩ := inS_lit
  have nl := later_no h
  have nl2 : ¬ w = ("LATER" : Str) := fun e => nl e.symm
  intro x hx
  simp only [oddK, List.append_assoc, List.cons_append, List.nil_append, List.mem_cons, List.not_mem_nil, or_false] at hx
  rcases hx with rfl | rfl | rfl | rfl | rfl | rfl | rfl | rfl | rfl | rfl | rfl | rfl | rfl | rfl | rfl | rfl | rfl | rfl | rfl | rfl | rfl | rfl | rfl | rfl | rfl | rfl | rfl | rfl | rfl | rfl | rfl | rfl <;>
    (refine ⟨?_, ?_, ?_⟩ <;> simp [kdO, isWordO, e0, b1, b2, b3, b4, i1, i2, i3, i4, i5, i6, i7, wb_sp, wb_nl, O.dep, odepAll, odepKs, O.fine, O.wf, owfAll, owfKs, O.nl, nl, nl2])
/-- whether it is a list of types; a row -/
def rowO (f : Nat) : O → Bool
  | .l xs => !xs.isEmpty && xs.all (kdO f)
  | _ => false
theorem oks_of (f : Nat) : ∀ (xs : List O), odepAll xs ≤ f → f ≤ 10 → OKs xs (xs.map (kdO f))
  | [], _, _ => .nil
  | x :: r, h, hf => by
    simp only [odepAll] at h
    obtain ⟨n, hn, k⟩ := kdO_ok f x (by omega)
    have : 2 ^ (f + 1) ≤ 2 ^ 11 := Nat.pow_le_pow_right (by decide) (by omega)
    exact .cons k (by omega) (oks_of f r (by omega) hf)
theorem rowO_ok (f : Nat) (hf : f ≤ 10) (x : O) (h : x.dep ≤ f + 1) (hw : x.wf = true) : ∃ a, RO x a (rowO f x) := by
  cases x with
  | l xs =>
    have hd : odepAll xs ≤ f := by simp only [O.dep] at h; omega
    rw [O.wf] at hw
    have q := RO.lst (oks_of f xs hd hf) (of_decide_eq_true (Bool.and_eq_true_iff.mp hw).1)
    refine ⟨(xs.map (kdO f)).all id, ?_⟩
    have e : rowO f (.l xs) = ((xs.map (kdO f)).all id && decide (0 < xs.length)) := by
      show (!xs.isEmpty && xs.all (kdO f)) = _
      rw [List.all_map]
      cases xs with
      | nil => rfl
      | cons a r => simp [Function.comp_def]
    rw [e]
    exact q
  | _ => exact ⟨false, .no (fun _ z => by cases z)⟩
theorem oddR_no {w : Str} (h : IsW w) : ∀ x ∈ oddR w ++ [.l []], rowO 3 x = false ∧ x.dep ≤ 4 ∧ x.fine = true := by
  have e0 : isWB w = true := isWB_of h
  obtain ⟨b1, b2, b3, b4⟩ := wb_lit
  obtain ⟨i1, i2, i3, i4, i5, i6, i7⟩ := inS_lit
  have nl := later_no h
  have nl2 : ¬ w = ("LATER" : Str) := fun e => nl e.symm
  intro x hx
  simp only [oddR, List.append_assoc, List.cons_append, List.nil_append, List.mem_cons, List.not_mem_nil, or_false] at hx
  rcases hx with rfl | rfl | rfl | rfl | rfl | rfl | rfl | rfl | rfl | rfl | rfl | rfl | rfl | rfl | rfl | rfl | rfl | rfl | rfl | rfl | rfl | rfl | rfl <;>
    (refine ⟨?_, ?_, ?_⟩ <;> simp [rowO, kdO, isWordO, e0, b1, b2, b3, b4, i1, i2, i3, i4, i5, i6, i7, wb_sp, wb_nl, O.dep, odepAll, odepKs, O.fine, O.wf, owfAll, owfKs, O.nl, nl, nl2])
end Q4

namespace Q4
open PySem PySem.Spec PyProof.Rows L2 NdefX LamX KT
open PySem.W (Frag)
/-! ### what is told has the very thing in it -/
theorem OkG.noKey {R : RK} {H : Hp} {ds : List (Key × O)} {vs : List (Key × V)} {z : Key} (h : OkG R H vs ds) (n : z ∉ ds.map (·.1)) : ∀ kv ∈ vs, kv.1 ≠ z := by
  induction ds generalizing vs with
  | nil => cases h; intro kv m; cases m
  | cons x r ih =>
    cases h with
    | cons l a b =>
      intro kv m
      rcases List.mem_cons.mp m with e | m
      · rw [e]
        intro q
        exact n (by rw [← q]; exact List.mem_cons_self)
      · exact ih b (fun q => n (List.mem_cons_of_mem _ q)) kv m
theorem OkG.append {R : RK} {H : Hp} {ds es : List (Key × O)} {vs us : List (Key × V)} (h : OkG R H vs ds) (h' : OkG R H us es) : OkG R H (vs ++ us) (ds ++ es) := by
  induction ds generalizing vs with
  | nil => cases h; exact h'
  | cons x r ih =>
    cases h with
    | cons l a b => exact .cons l a (ih b)
theorem OG.kinds {K : Frag} {H : Hp} {v : V} {x : O} (h : OAt H v x) : (∃ c : String, TyX K H v (.type c) ∧ kitB c "list" = some false ∧ kitB c "dict" = some false) ∨ (∃ L xs ds, v = .ref L ∧ x = .l ds ∧ H L = some (.lst xs) ∧ OsAt (rm H L) xs ds) ∨
    ∃ L kvs ds, v = .ref L ∧ x = .d ds ∧ H L = some (.dK kvs) ∧ OkAt (rm H L) kvs ds := by
  cases h with
  | s _ => exact .inl ⟨"str", .base (.str _), by decide +kernel, by decide +kernel⟩
  | i _ => exact .inl ⟨"int", .base (.int _), by decide +kernel, by decide +kernel⟩
  | b _ => exact .inl ⟨"bool", .base (.bl _), by decide +kernel, by decide +kernel⟩
  | o => exact .inl ⟨"NoneType", .base .non, by decide +kernel, by decide +kernel⟩
  | t e _ => exact .inl ⟨"tuple", .base (.tup e), by decide +kernel, by decide +kernel⟩
  | l e hx => exact .inr (.inl ⟨_, _, _, rfl, rfl, e, hx⟩)
  | d e hx => exact .inr (.inr ⟨_, _, _, rfl, rfl, e, hx⟩)
section
variable {P : Program} {w : World} {K : Frag} {mg : Str → Option Value} {base : Heap}
def spLVery : Sp := fun vs H Q _ => ∃ (p : Addr) (z : Str) (v : V) (x : O), vs = [.ref p, .str z, v] ∧ H p = some (.tup [.str z, v, .bl false, .bl true]) ∧ OAt H v x ∧ x.fine = true ∧ z.length ≤ 1000000 ∧ ∀ H', Same H H' → Q (.bl true) H'
end
end Q4

namespace Q4
open PySem PySem.Spec PyProof.Rows L2 L2H NdefX LamX KT HX
open PySem.W (Frag)
theorem hu64H {A : Around} {k : Nat} (hr : RoomH k A) : A.units + 64 < cLine := by have := hr.un; omega
theorem cutV_lst (xs : List V) (x : V) : cutV (xs ++ [x]) (some (-1)) none = [x] := by
  unfold cutV
  have e1 : HT.sIx (xs ++ [x]).length 0 (some (-1)) = xs.length := by
    simp [HT.sIx]; omega
  have e2 : HT.sIx (xs ++ [x]).length (xs ++ [x]).length none = xs.length + 1 := by simp [HT.sIx]
  rw [e1, e2, List.drop_left]
  simp
section
variable {P : Program} {w : World} {K : Frag} {mg : Str → Option Value} {base : Heap} {e : Addr}
/-- what `Told` may be put into and taken out of -/
def O.fineT (x : O) : Bool := x.wf && decide (x.dep ≤ 10) && match x with
  | .l ds => decide (ds.length ≤ 900)
  | .d ds => decide (ds.length ≤ 900) && ds.all fun kd => decide (kd.1 ≠ Sum.inr ("Told" : Str))
  | _ => true
def spIsVery (e : Addr) : Sp := fun vs H Q _ => ∃ (v : V) (x : O), vs = [v, v] ∧ OAt H v x ∧ x.fineT = true ∧ HotH e H ∧ ∀ H', Same H H' → Q (.bl true) H'
theorem ok_isVery {f fe : Addr} {fd fde : FuncData} (T0 : Top K mg "_law_is_very" sLIsVery pLIsVery f fd) (TE : Top K mg "_law_exact" sLExact pLExact fe fde) (GE : FnE e P w K mg base CX0 13 fe fde pLExact (spExactE e 12)) (B : Blt mg) : FnE e P w K mg base CX0 14 f fd pLIsVery (spIsVery e) := by
  refine okE T0.F scLIsVery (fun vs H Q E h => ?_) (fun cdv A outer s H vs Q E hh hr h => ?_)
  · obtain ⟨_, _, rfl, _⟩ := h
    rfl
  · have hu := hu_ofH hr
    obtain ⟨v, x, rfl, hv, hf, hot, k⟩ := h
    refine ⟨_, (pss_cons (ps_if (pt_not (pt_val (pe_callE GE hr hh rfl TE.g TE.F.kp TE.b pass0 (pa_cons (pv 0) (pa_cons (pv 1) pa_nil))))) (pss_one (ps_ret pe_bl)) pss_nil)
      (pss_cons (ps_if (pt_val (pe_callB call_isi (by rfl) B.isi (by decide +kernel) (pa_cons (pv 1) (pa_cons (pe_bltn (v := .ty "list") (by rfl) B.list (by decide +kernel) rfl) pa_nil)))) (pss_cons (ps_expr (pe_bm PySem.F.plainAttrs_list PySem.F.slot_list_append PySem.F.type_list_append mt_append (pv 1) (pa_cons pe_str pa_nil)))
      (pss_cons (ps_set (i := 2) scLIsVery.nd rfl (Or.inl rfl) (pe_cmpR (op_eqD (hu64H hr)) (pe_slice sl_list (pv 0) (po_some (pe_un un_neg pe_int)) po_none) (pe_lst (pa_cons pe_str pa_nil)) (nomark _)))
      (pss_cons (ps_expr (pe_bm0 PySem.F.plainAttrs_list PySem.F.slot_list_pop PySem.F.type_list_pop mt_pop (pv 1)))
      (pss_one (ps_ret (pv 2)))))) pss_nil)
      (pss_cons (ps_if (pt_val (pe_callB call_isi (by rfl) B.isi (by decide +kernel) (pa_cons (pv 1) (pa_cons (pe_bltn (v := .ty "dict") (by rfl) B.dict (by decide +kernel) rfl) pa_nil)))) (pss_cons (ps_dput hu (pv 1) pe_str pe_int rfl)
      (pss_cons (ps_set (i := 2) scLIsVery.nd rfl (Or.inl rfl) (pe_cmp (pc_din hu pe_str (pv 0)) rfl))
      (pss_cons (ps_expr (pe_dpop1 (pv 1) pe_str ⟨by rfl, by rfl, by rfl, by rfl⟩))
      (pss_one (ps_ret (pv 2)))))) pss_nil)
      (pss_one (ps_ret pe_bl))))), ?_⟩
    obtain ⟨hf1, hf3⟩ := Bool.and_eq_true_iff.mp hf
    obtain ⟨hf1, hf2⟩ := Bool.and_eq_true_iff.mp hf1
    have hd := of_decide_eq_true hf2
    refine ⟨v, rfl, v, rfl, v, v, x, rfl, hv, hv.r1, hf1, by omega, hot, fun H1 s1 => ?_⟩
    refine ⟨_, rfl, iteF ?_⟩
    have hv1 := hv.same s1
    have kk := k H1 s1
    rcases hv1.kinds (K := K) with ⟨c, ty, k1, k2⟩ | ⟨L, xs, ds, rfl, rfl, eL, hx⟩ | ⟨L, kvs, ds, rfl, rfl, eL, hx⟩
    · exact ⟨v, rfl, v, _, _, _, false, rfl, .ty "list", ty, kit_ty k1, false, rfl, iteF ⟨v, rfl, v, _, _, _, false, rfl, .ty "dict", ty, kit_ty k2, false, rfl, iteF kk⟩⟩
    · have lx := hx.length
      have hw' : decide (ds.length ≤ 1000) = true ∧ owfAll ds = true := by
        rw [O.wf] at hf1
        exact Bool.and_eq_true_iff.mp hf1
      have l4 := of_decide_eq_true hw'.1
      refine ⟨_, rfl, _, _, _, _, true, rfl, .ty "list", .base (.lst eL), kit_ty (by decide +kernel), true, rfl, iteT ?_⟩
      refine ⟨_, rfl, .inl ⟨rfl, _, SqL.of eL⟩, L, xs, _, rfl, rfl, eL, by rw [sizeLine_eq]; omega, ?_⟩
      refine ⟨_, rfl, _, rfl, _, rfl, L, _, rfl, SqL.of upd_same, fun q nq => ?_⟩
      refine ⟨by show 1 ≤ sizeLine; rw [sizeLine_eq]; omega, fun q2 nq2 => ?_⟩
      have eL3 : upd H1 L (.lst (xs ++ [.str "Told"])) L = some (.lst (xs ++ [.str "Told"])) := upd_same
      have u1 := same_upd (o := .lst (cutV (xs ++ [V.str "Told"]) (some (-1)) none)) nq
      have u2 := same_upd (o := .lst [V.str "Told"]) nq2
      have ec : cutV (xs ++ [V.str "Told"]) (some (-1)) none = [V.str "Told"] := cutV_lst xs _
      refine ⟨.list [.str "Told"], .list [.str "Told"], .lst (SqL.of (u2 _ _ (by rw [upd_same, ec]))) (.cons (.str _) .nil), .lst (SqL.of upd_same) (.cons (.str _) .nil), by decide +kernel, by decide +kernel, ?_⟩
      rw [show PyData.eqv (.list [.str "Told"]) (.list [.str "Told"]) = true by decide +kernel]
      have e3 := u2 _ _ (u1 _ _ eL3)
      refine ⟨_, rfl, .inl ⟨rfl, _, SqL.of e3⟩, L, _, .str "Told", rfl, rfl, e3, by simp, ?_⟩
      rw [List.dropLast_concat]
      refine ⟨_, rfl, k _ fun b o z => ?_⟩
      have z2 := s1 _ _ z
      by_cases c : b = L
      · rw [c] at z2 ⊢
        rw [upd_same, ← eL]
        exact z2
      · rw [upd_ne c]
        exact u2 _ _ (u1 _ _ (by rw [upd_ne c]; exact z2))
    · have lx := hx.length
      have hw' : ds.length ≤ 1000 ∧ (ds.map (·.1)).Nodup ∧ owfKs ds = true := by
        rw [O.wf] at hf1
        obtain ⟨w1, w2⟩ := Bool.and_eq_true_iff.mp hf1
        obtain ⟨w3, w4⟩ := Bool.and_eq_true_iff.mp w1
        exact ⟨of_decide_eq_true w3, of_decide_eq_true w4, w2⟩
      obtain ⟨l4, nd, wk⟩ := hw'
      obtain ⟨n1, n2⟩ := Bool.and_eq_true_iff.mp hf3
      have n1 := of_decide_eq_true n1
      have n2 : (Sum.inr ("Told" : Str) : Key) ∉ ds.map (·.1) := fun m => by
        obtain ⟨kd, hk, q⟩ := List.mem_map.mp m
        exact of_decide_eq_true (List.all_eq_true.mp n2 kd hk) q
      have nk := hx.noKey n2
      have nv : valV kvs (Sum.inr ("Told" : Str)) = none := by
        unfold valV
        rw [List.find?_eq_none.mpr fun kv m => by rw [decide_eq_true_eq]; exact nk kv m]
        rfl
      refine ⟨_, rfl, _, _, _, _, false, rfl, .ty "list", .base (.dK eL), kit_ty (by decide +kernel), false, rfl, iteF ⟨_, rfl, _, _, _, _, true, rfl, .ty "dict", .base (.dK eL), kit_ty (by decide +kernel), true, rfl, iteT ?_⟩⟩
      refine ⟨_, rfl, L, _, rfl, DPut.k (k := Sum.inr ("Told" : Str)) eL (by rw [sizeLine_eq]; omega), ?_⟩
      rw [putK_new _ nv]
      have hv2 : valV (kvs ++ [((Sum.inr ("Told" : Str) : Key), V.int 0)]) (Sum.inr ("Told" : Str)) = some (.int 0) := by
        unfold valV at nv ⊢
        rw [List.find?_append, Option.map_eq_none_iff.mp nv]
        rfl
      refine ⟨_, rfl, L, some (.int 0), rfl, .inl ⟨_, Sum.inr ("Told" : Str), .inl upd_same, rfl, hv2.symm⟩, ?_⟩
      refine ⟨_, rfl, L, rfl, .inl ⟨_, .inl upd_same⟩, _, Sum.inr ("Told" : Str), .int 0, upd_same, rfl, hv2, ?_⟩
      have d3 : dropK (kvs ++ [((Sum.inr ("Told" : Str) : Key), V.int 0)]) (Sum.inr ("Told" : Str)) = kvs := by
        unfold dropK
        rw [List.filter_append, List.filter_eq_self.mpr fun kv m => by simp [nk kv m]]
        simp
      rw [d3]
      refine ⟨_, rfl, k _ fun b o z => ?_⟩
      have z2 := s1 _ _ z
      by_cases c : b = L
      · rw [c] at z2 ⊢
        rw [upd_same, ← eL]
        exact z2
      · rw [upd_ne c, upd_ne c]
        exact z2
end
end Q4

namespace HX
open PySem PySem.Spec PyProof.Rows L2 L2H KT HotX XN K1
open PySem.W (Frag)
section
variable {X : Cx}
/-- isinstance(e, (c1, c2, ..)) of a kept error -/
def rIsKT (K : Frag) : List V → Hp → VK → Prop := fun xs H Q => ∃ (e C tp : Addr) (v : V) (cs : List V) (us : List Value) (b : Bool), xs = [.ref e, .ref tp] ∧ KErr H C e v ∧ ExcC K C ∧ H tp = some (.tup cs) ∧ Paired ClsV cs us ∧ PySem.W.kitAny K (.ref C) us = some b ∧ Q (.bl b) H
theorem call_isKT : CallR X (.builtin "isinstance") (rIsKT X.K) := by
  intro pins s σ H xs us Q I r h
  obtain ⟨e, C, tp, v, cs, ws, b, rfl, ⟨d, h1, h2⟩, T, hT, kc, hk, q⟩ := h
  match us, r with
  | _, .cons rx (.cons rt .nil) =>
    cases rx
    cases rt
    obtain ⟨⟨oe, vs, ho, hz, hdt⟩, _, _⟩ := (show ObjOk X.prog X.w H s.heap e (exk e (.ref C) (some d)) from I.hok e _ h1)
    obtain ⟨mA, dns, _⟩ := (show ObjOk X.prog X.w H s.heap d (vdict v) from I.hok d _ h2)
    obtain ⟨od, hod, _⟩ := lookIn_ns dns
    have J : PySem.W.InstAt s.heap e oe C (some od) := ⟨ho, hz.1, by unfold PySem.W.notCls; rw [hdt] <;> rfl, by rw [hz.2.1]; exact hod⟩
    obtain ⟨_, its, rv, o, g1, g2, n, g3⟩ := (show ObjOk X.prog X.w H s.heap tp (.tup cs) from I.hok tp _ hT)
    have e3 := ClsV.all kc rv
    subst e3
    obtain ⟨oc, od', dt, sl⟩ := o
    simp only at g2 g3
    subst g2 g3
    exact PySem.W.kia_tup (PySem.W.kitx_exc (K1.is_clsIn T.hd) T.hg T.hk T.hs T.ha T.hn T.ht T.hm) I.kIn J g1 hk (fun z => nomatch z) fun tk => ⟨.bl b, H, I.kept (t' := tk) fun _ _ z => z, rfl, q⟩
end
end HX

namespace Q4
open PySem PySem.Spec PyProof.Rows L2 L2H NdefX LamX KT HX XN K1
open PySem.W (Frag)
/-! ### errors: a type, a word, refused -/
structure Cx3 where
  k : Addr
  w : Addr
  r : Addr
inductive Er
  | kind
  | word
  | refused
deriving DecidableEq
def Er.nm : Er → Str
  | .kind => "kind"
  | .word => "word"
  | .refused => "refused"
def Er.at_ (c : Cx3) : Er → Addr
  | .kind => c.k
  | .word => c.w
  | .refused => c.r
/-- what the classes of errors are to one another -/
structure Ecs (K : Frag) (mg : Str → Option Value) (c : Cx3) (BP : Addr) : Prop where
  m : ∀ x y : Er, PySem.W.kitOne K (.ref (x.at_ c)) (.ref (y.at_ c)) = some (decide (x = y))
  x : ∀ x : Er, XfC K (x.at_ c) ∧ ExcC K (x.at_ c) ∧ PySem.W.findIn K (.ref (x.at_ c)) "value" = some none
  p : ∀ x : Er, PySem.W.exmOne K (.ref (x.at_ c)) (.ref BP) = some true
  g : mg "PhraseError" = some (.ref BP)
  gk : mg "InvalidKind" = some (.ref c.k)
  gw : mg "InvalidWord" = some (.ref c.w)
  gr : mg "Refused" = some (.ref c.r)
section
variable {P : Program} {w : World} {K : Frag} {mg : Str → Option Value} {base : Heap} {e : Addr} {c : Cx3} {BP : Addr}
def spWordOf (c : Cx3) : Sp := fun vs H Q _ => ∃ (a : Addr) (x : Er) (v : V), vs = [.ref a] ∧ XN.KErr H (x.at_ c) a v ∧ ∀ H', Same H H' → Q (.str x.nm) H'
theorem ok_wordOf {f : Addr} {fd : FuncData} (T0 : Top K mg "_law_word_of" sLWordOf pLWordOf f fd) (EC : Ecs K mg c BP) (B : Blt mg) : FnE e P w K mg base CX0 1 f fd pLWordOf (spWordOf c) := by
  refine okE T0.F scLWordOf (fun vs H Q E h => ?_) (fun cdv A outer s H vs Q E hh hr h => ?_)
  · obtain ⟨_, _, _, rfl, _⟩ := h
    rfl
  · obtain ⟨a, x, v, rfl, hv, k⟩ := h
    have gk := EC.gk
    have gw := EC.gw
    have gr := EC.gr
    refine ⟨_, (pss_cons (ps_if (pt_val (pe_callB call_isKT (by rfl) B.isi (by decide +kernel) (pa_cons (pv 0) (pa_cons (pe_tup (pa_cons (pe_glob (v := .ref c.k) rfl gk rfl) (pa_cons (pe_glob (v := .ref c.w) rfl gw rfl) pa_nil))) pa_nil)))) (pss_one (ps_ret (pe_ifExp (pt_val (pe_callB XN.call_isK (by rfl) B.isi (by decide +kernel) (pa_cons (pv 0) (pa_cons (pe_glob (v := .ref c.k) rfl gk rfl) pa_nil)))) pe_str pe_str))) pss_nil)
      (pss_one (ps_ret (pe_ifExp (pt_val (pe_callB XN.call_isK (by rfl) B.isi (by decide +kernel) (pa_cons (pv 0) (pa_cons (pe_glob (v := .ref c.r) rfl gr rfl) pa_nil)))) pe_str pe_str)))), ?_⟩
    obtain ⟨xf, xc, xn⟩ := EC.x x
    refine ⟨_, rfl, by show 2 ≤ sizeLine; rw [sizeLine_eq]; omega, fun p np => ?_⟩
    have s1 := same_upd (o := .tup [.ref c.k, .ref c.w]) np
    have hv1 := hv.same s1
    have kk := k _ s1
    have m1 := EC.m x .kind
    have m2 := EC.m x .word
    have m3 := EC.m x .refused
    cases x with
    | kind =>
      refine ⟨a, _, p, v, _, [.ref c.k, .ref c.w], true, rfl, hv1, xc, upd_same, .cons (.own _) (.cons (.own _) .nil), kitAny_cons (b := true) m1 (fun z => by cases z) (fun _ => rfl), true, rfl, iteT ?_⟩
      exact ⟨_, rfl, a, _, v, _, _, true, rfl, hv1, xc, .own _, m1, true, rfl, iteT kk⟩
    | word =>
      refine ⟨a, _, p, v, _, [.ref c.k, .ref c.w], true, rfl, hv1, xc, upd_same, .cons (.own _) (.cons (.own _) .nil), kitAny_cons (b := false) m1 (fun _ => kitAny_cons (b := true) m2 (fun z => by cases z) (fun _ => rfl)) (fun z => by cases z), true, rfl, iteT ?_⟩
      exact ⟨_, rfl, a, _, v, _, _, false, rfl, hv1, xc, .own _, m1, false, rfl, iteF kk⟩
    | refused =>
      refine ⟨a, _, p, v, _, [.ref c.k, .ref c.w], false, rfl, hv1, xc, upd_same, .cons (.own _) (.cons (.own _) .nil), kitAny_cons (b := false) m1 (fun _ => kitAny_cons (b := false) m2 (fun _ => kitAny_nil) (fun z => by cases z)) (fun z => by cases z), false, rfl, iteF ?_⟩
      exact ⟨_, rfl, a, _, v, _, _, true, rfl, hv1, xc, .own _, m3, true, rfl, iteT kk⟩
end
end Q4

namespace KT
open PySem PySem.Spec PyProof.Rows L2
/-- two promises of one def -/
theorem fn_or {P : Program} {w : World} {K : PySem.W.Frag} {mg : Str → Option Value} {base : Heap} {CX : CXT} {k : Nat} {f : Addr} {fd : FuncData} {ps : List Str} {sp1 sp2 : Sp} (F1 : FnOk P w K mg base CX k f fd ps sp1) (F2 : FnOk P w K mg base CX k f fd ps sp2) : FnOk P w K mg base CX k f fd ps (fun vs H Q E => sp1 vs H Q E ∨ sp2 vs H Q E) :=
  ⟨fun vs H Q E h => h.elim (F1.len vs H Q E) (F2.len vs H Q E), fun A st s H args us vs Q E hr e0 hb r h => h.elim (F1.run A st s H args us vs Q E hr e0 hb r) (F2.run A st s H args us vs Q E hr e0 hb r)⟩
/-- a def that raises nothing -/
theorem fn_cx {P : Program} {w : World} {K : PySem.W.Frag} {mg : Str → Option Value} {base : Heap} {CX : CXT} {k : Nat} {f : Addr} {fd : FuncData} {ps : List Str} {sp : Sp} (F : FnOk P w K mg base CX0 k f fd ps sp) : FnOk P w K mg base CX k f fd ps sp :=
  ⟨F.len, fun A st s H args us vs Q E hr e0 hb r h => codeAny_mono (F.run A st s H args us vs Q E hr e0 hb r h) fun res s' g => by
    match res, g with
    | .ok (.ret u), g => exact g
    | .error e, g => exact False.elim g⟩
end KT

namespace Q4
open PySem PySem.Spec PyProof.Rows L2 NdefX LamX KT
open PySem.W (Frag)
/-- what is asked, so that an error comes: of which class, with which value -/
inductive Bad (H : Hp) : Int → List V → Er → V → Prop
  | r1 {v u y : V} : NoK H v → Bad H 0 [v, u, y] .kind v
  | r2 {v u y : V} : KdR H v → NoK H u → Bad H 0 [v, u, y] .kind u
  | rw {v u y : V} {a b : Ty} {x : O} : GoodK H v a → GoodK H u b → OAt H y x → XO.hasT ["over"] y = false → XO.hasT ["under"] y = false → Bad H 0 [v, u, y] .word y
  | c1 {v u : V} : NoK H v → Bad H 1 [v, u] .kind v
  | c2 {v u : V} : KdR H v → NoK H u → Bad H 1 [v, u] .kind u
  | cr {v u : V} {a b : Ty} : GoodK H v a → GoodK H u b → Ty.meets .ov a b = false → Ty.meets .un a b = false → Bad H 1 [v, u] .refused u
  | d1 {v u : V} : NoK H v → Bad H 2 [v, u] .kind v
  | d2 {v u : V} : KdR H v → NoK H u → Bad H 2 [v, u] .kind u
  | dr {v u : V} {a b : Ty} : GoodK H v a → GoodK H u b → a.hasSg .ov = false → a.hasSg .un = false → Bad H 2 [v, u] .refused v
  | s1 {v : V} : NoK H v → Bad H 3 [v] .kind v
  | sr {v : V} {a : Ty} : GoodK H v a → a.swaps = false → Bad H 3 [v] .refused v
  | p1 {v : V} : NoK H v → Bad H 4 [v] .kind v
  | pr {v : V} {a : Ty} : GoodK H v a → a.bound = false → Bad H 4 [v] .refused v
  | k1 {v : V} : NoK H v → Bad H 5 [v] .kind v
  | kr {v : V} {a : Ty} : GoodK H v a → a.packs = false → Bad H 5 [v] .refused v
theorem KdR.same {H H' : Hp} {v : V} (s : Same H H') (h : KdR H v) : KdR H' v := h.elim fun t q => ⟨t, q.same s⟩
theorem Bad.same {H H' : Hp} {j : Int} {us : List V} {x : Er} {v : V} (h : Bad H j us x v) (s : Same H H') : Bad H' j us x v := by
  cases h with
  | r1 a => exact .r1 (a.same s)
  | r2 a b => exact .r2 (a.same s) (b.same s)
  | rw a b c d e => exact .rw (a.same s) (b.same s) (c.same s) d e
  | c1 a => exact .c1 (a.same s)
  | c2 a b => exact .c2 (a.same s) (b.same s)
  | cr a b c d => exact .cr (a.same s) (b.same s) c d
  | d1 a => exact .d1 (a.same s)
  | d2 a b => exact .d2 (a.same s) (b.same s)
  | dr a b c d => exact .dr (a.same s) (b.same s) c d
  | s1 a => exact .s1 (a.same s)
  | sr a b => exact .sr (a.same s) b
  | p1 a => exact .p1 (a.same s)
  | pr a b => exact .pr (a.same s) b
  | k1 a => exact .k1 (a.same s)
  | kr a b => exact .kr (a.same s) b
theorem Bad.shape {H : Hp} {j : Int} {us : List V} {x : Er} {v : V} (h : Bad H j us x v) : (j = 0 ∧ us.length = 3) ∨ (j = 1 ∧ us.length = 2) ∨ (j = 2 ∧ us.length = 2) ∨ (j = 3 ∧ us.length = 1) ∨ (j = 4 ∧ us.length = 1) ∨ (j = 5 ∧ us.length = 1) := by
  cases h <;> simp
section
variable {P : Program} {w : World} {K : Frag} {mg : Str → Option Value} {base : Heap} {c : Cx3} {fK fW fR : Addr}
def spE (j : Int) (c : Cx3) : Sp := fun vs H Q E => ∃ x v, Bad H j vs x v ∧ Err1 (x.at_ c) v H E
theorem e_raising {f : Addr} {fd : FuncData} (G1 : FnOk P w K mg base (L2N.CX P w) 4 f fd pRaising (sp3 NoK c.k)) (G2 : FnOk P w K mg base (L2N.CX P w) 4 f fd pRaising (sp3r KdR NoK c.k)) (G3 : FnOk P w K mg base (L2N.CX P w) 4 f fd pRaising (spRefW c.w)) : FnOk P w K mg base (L2N.CX P w) 4 f fd pRaising (spE 0 c) :=
  (fn_or G1 (fn_or G2 G3)).imp fun vs H Q E ⟨x, v, h, e⟩ => by
    cases h with
    | r1 a => exact .inl ⟨_, _, _, rfl, a, e⟩
    | r2 a b => exact .inr (.inl ⟨_, _, _, rfl, a, b, e⟩)
    | rw a b c d g => exact .inr (.inr ⟨_, _, _, _, _, _, rfl, a, b, c, d, g, e⟩)
theorem e_composing {f : Addr} {fd : FuncData} (G1 : FnOk P w K mg base (L2N.CX P w) 4 f fd pComposing (sp2 NoK c.k)) (G2 : FnOk P w K mg base (L2N.CX P w) 4 f fd pComposing (sp2r KdR NoK c.k)) (G3 : FnOk P w K mg base (L2N.CX P w) 4 f fd pComposing (spRefC c.r)) : FnOk P w K mg base (L2N.CX P w) 4 f fd pComposing (spE 1 c) :=
  (fn_or G1 (fn_or G2 G3)).imp fun vs H Q E ⟨x, v, h, e⟩ => by
    cases h with
    | c1 a => exact .inl ⟨_, _, rfl, a, e⟩
    | c2 a b => exact .inr (.inl ⟨_, _, rfl, a, b, e⟩)
    | cr a b c d => exact .inr (.inr ⟨_, _, _, _, rfl, a, b, c, d, e⟩)
theorem e_dividing {f : Addr} {fd : FuncData} (G1 : FnOk P w K mg base (L2N.CX P w) 4 f fd pDividing (sp2 NoK c.k)) (G2 : FnOk P w K mg base (L2N.CX P w) 4 f fd pDividing (sp2r KdR NoK c.k)) (G3 : FnOk P w K mg base (L2N.CX P w) 4 f fd pDividing (spRefD c.r)) : FnOk P w K mg base (L2N.CX P w) 4 f fd pDividing (spE 2 c) :=
  (fn_or G1 (fn_or G2 G3)).imp fun vs H Q E ⟨x, v, h, e⟩ => by
    cases h with
    | d1 a => exact .inl ⟨_, _, rfl, a, e⟩
    | d2 a b => exact .inr (.inl ⟨_, _, rfl, a, b, e⟩)
    | dr a b c d => exact .inr (.inr ⟨_, _, _, _, rfl, a, b, c, d, e⟩)
theorem e_swapping {f : Addr} {fd : FuncData} (G1 : FnOk P w K mg base (L2N.CX P w) 4 f fd pSwapping (sp1 NoK c.k)) (G3 : FnOk P w K mg base (L2N.CX P w) 4 f fd pSwapping (spRef1 Ty.swaps c.r)) : FnOk P w K mg base (L2N.CX P w) 4 f fd pSwapping (spE 3 c) :=
  (fn_or G1 G3).imp fun vs H Q E ⟨x, v, h, e⟩ => by
    cases h with
    | s1 a => exact .inl ⟨_, rfl, a, e⟩
    | sr a b => exact .inr ⟨_, _, rfl, a, b, e⟩
theorem e_parting {f : Addr} {fd : FuncData} (G1 : FnOk P w K mg base (L2N.CX P w) 4 f fd pParting (sp1 NoK c.k)) (G3 : FnOk P w K mg base (L2N.CX P w) 4 f fd pParting (spRef1 Ty.bound c.r)) : FnOk P w K mg base (L2N.CX P w) 4 f fd pParting (spE 4 c) :=
  (fn_or G1 G3).imp fun vs H Q E ⟨x, v, h, e⟩ => by
    cases h with
    | p1 a => exact .inl ⟨_, rfl, a, e⟩
    | pr a b => exact .inr ⟨_, _, rfl, a, b, e⟩
theorem e_packing {f : Addr} {fd : FuncData} (G1 : FnOk P w K mg base (L2N.CX P w) 4 f fd pPacking (sp1 NoK c.k)) (G3 : FnOk P w K mg base (L2N.CX P w) 4 f fd pPacking (spRef1 Ty.packs c.r)) : FnOk P w K mg base (L2N.CX P w) 4 f fd pPacking (spE 5 c) :=
  (fn_or G1 G3).imp fun vs H Q E ⟨x, v, h, e⟩ => by
    cases h with
    | k1 a => exact .inl ⟨_, rfl, a, e⟩
    | kr a b => exact .inr ⟨_, _, rfl, a, b, e⟩
structure NEs (P : Program) (w : World) (K : Frag) (mg : Str → Option Value) (base : Heap) (c : Cx3) (f0 f1 f2 f3 f4 f5 : Addr) (d0 d1 d2 d3 d4 d5 : FuncData) : Prop where
  T0 : Top K mg "raising" sRaising pRaising f0 d0
  T1 : Top K mg "composing" sComposing pComposing f1 d1
  T2 : Top K mg "dividing" sDividing pDividing f2 d2
  T3 : Top K mg "swapping" sSwapping pSwapping f3 d3
  T4 : Top K mg "parting" sParting pParting f4 d4
  T5 : Top K mg "packing" sPacking pPacking f5 d5
  G0 : FnOk P w K mg base (L2N.CX P w) 4 f0 d0 pRaising (spE 0 c)
  G1 : FnOk P w K mg base (L2N.CX P w) 4 f1 d1 pComposing (spE 1 c)
  G2 : FnOk P w K mg base (L2N.CX P w) 4 f2 d2 pDividing (spE 2 c)
  G3 : FnOk P w K mg base (L2N.CX P w) 4 f3 d3 pSwapping (spE 3 c)
  G4 : FnOk P w K mg base (L2N.CX P w) 4 f4 d4 pParting (spE 4 c)
  G5 : FnOk P w K mg base (L2N.CX P w) 4 f5 d5 pPacking (spE 5 c)
def spNmE (c : Cx3) : Sp := fun vs H Q E => ∃ (j : Int) (L : Addr) (us : List V) (x : Er) (v : V), vs = [.int j, .ref L] ∧ H L = some (.lst us) ∧ Bad H j us x v ∧ Err1 (x.at_ c) v H E
theorem err_named {f f0 f1 f2 f3 f4 f5 : Addr} {fd d0 d1 d2 d3 d4 d5 : FuncData} (T : Top K mg "_law_named" sLNamed pLNamed f fd) (R : NEs P w K mg base c f0 f1 f2 f3 f4 f5 d0 d1 d2 d3 d4 d5) : FnOk P w K mg base (L2N.CX P w) 5 f fd pLNamed (spNmE c) := by
  obtain ⟨T0, T1, T2, T3, T4, T5, G0, G1, G2, G3, G4, G5⟩ := R
  refine T.F.okXN scLNamed (fun vs H Q E h => ?_) (fun cdv A outer s H vs Q E hr h => ?_)
  · obtain ⟨_, _, _, _, _, rfl, _⟩ := h
    rfl
  · obtain ⟨j, L, us, x, v, rfl, eL, hc, k⟩ := h
    refine ⟨_, (pss_cons (ps_if (pt_cmpR op_in_seq (pv 0) (pe_tup (pa_cons pe_int (pa_cons pe_int pa_nil))) (by rfl)) (pss_one (ps_ret (pe_ifExp (pt_cmpR op_eq (pv 0) pe_int (nomark _)) (pe_callS G0 hr rfl T0.g T0.F.kp T0.b (fun σ => L2N.passAt (L2N.takes_of rfl rfl rfl rfl) σ) (pa_cons (pe_ix ix_list (pv 1) pe_int (fun _ _ => rfl)) (pa_cons (pe_ix ix_list (pv 1) pe_int (fun _ _ => rfl)) (pa_cons (pe_ix ix_list (pv 1) pe_int (fun _ _ => rfl)) pa_nil)))) (pe_callS G1 hr rfl T1.g T1.F.kp T1.b (fun σ => L2N.passAt (L2N.takes_of rfl rfl rfl rfl) σ) (pa_cons (pe_ix ix_list (pv 1) pe_int (fun _ _ => rfl)) (pa_cons (pe_ix ix_list (pv 1) pe_int (fun _ _ => rfl)) pa_nil)))))) pss_nil)
      (pss_cons (ps_if (pt_cmpR op_in_seq (pv 0) (pe_tup (pa_cons pe_int (pa_cons pe_int pa_nil))) (by rfl)) (pss_one (ps_ret (pe_ifExp (pt_cmpR op_eq (pv 0) pe_int (nomark _)) (pe_callS G2 hr rfl T2.g T2.F.kp T2.b (fun σ => L2N.passAt (L2N.takes_of rfl rfl rfl rfl) σ) (pa_cons (pe_ix ix_list (pv 1) pe_int (fun _ _ => rfl)) (pa_cons (pe_ix ix_list (pv 1) pe_int (fun _ _ => rfl)) pa_nil))) (pe_callS G3 hr rfl T3.g T3.F.kp T3.b (fun σ => L2N.passAt (L2N.takes_of rfl rfl rfl rfl) σ) (pa_cons (pe_ix ix_list (pv 1) pe_int (fun _ _ => rfl)) pa_nil))))) pss_nil)
      (pss_one (ps_ret (pe_ifExp (pt_cmpR op_eq (pv 0) pe_int (nomark _)) (pe_callS G4 hr rfl T4.g T4.F.kp T4.b (fun σ => L2N.passAt (L2N.takes_of rfl rfl rfl rfl) σ) (pa_cons (pe_ix ix_list (pv 1) pe_int (fun _ _ => rfl)) pa_nil)) (pe_callS G5 hr rfl T5.g T5.F.kp T5.b (fun σ => L2N.passAt (L2N.takes_of rfl rfl rfl rfl) σ) (pa_cons (pe_ix ix_list (pv 1) pe_int (fun _ _ => rfl)) pa_nil))))))), ?_⟩
    have sz2 : 2 ≤ sizeLine := by rw [sizeLine_eq]; omega
    refine ⟨_, rfl, sz2, fun q7 n7 => ⟨q7, _, rfl, .inr (SqT.of upd_same), rfl, rfl, ?_⟩⟩
    have s7 := same_upd (o := .tup [.int 0, .int 1]) n7
    have eL7 := s7 _ _ eL
    have hc7 := hc.same s7
    have k7 := k.same s7
    generalize upd H q7 _ = H7 at *
    rcases hc.shape with ⟨rfl, l⟩ | ⟨rfl, l⟩ | ⟨rfl, l⟩ | ⟨rfl, l⟩ | ⟨rfl, l⟩ | ⟨rfl, l⟩
    · rcases us with _ | ⟨u0, _ | ⟨u1, _ | ⟨u2, _ | ⟨u3, us⟩⟩⟩⟩
      · simp at l
      · simp at l
      · simp at l
      · refine ⟨true, congrArg V.bl (show _ = true by decide +kernel), iteT ⟨_, rfl, rfl, true, congrArg V.bl (decide_eq_true rfl), iteT ?_⟩⟩
        refine ⟨_, rfl, L, _, _, _, rfl, rfl, SqL.of eL7, atI_nat (j := 0) rfl, _, rfl, L, _, _, _, rfl, rfl, SqL.of eL7, atI_nat (j := 1) rfl, _, rfl, L, _, _, _, rfl, rfl, SqL.of eL7, atI_nat (j := 2) rfl, ?_⟩
        exact ⟨x, v, hc7, k7⟩
      · simp at l
    · rcases us with _ | ⟨u0, _ | ⟨u1, _ | ⟨u2, us⟩⟩⟩
      · simp at l
      · simp at l
      · refine ⟨true, congrArg V.bl (show _ = true by decide +kernel), iteT ⟨_, rfl, rfl, false, congrArg V.bl (decide_eq_false (by decide)), iteF ?_⟩⟩
        refine ⟨_, rfl, L, _, _, _, rfl, rfl, SqL.of eL7, atI_nat (j := 0) rfl, _, rfl, L, _, _, _, rfl, rfl, SqL.of eL7, atI_nat (j := 1) rfl, ?_⟩
        exact ⟨x, v, hc7, k7⟩
      · simp at l
    · rcases us with _ | ⟨u0, _ | ⟨u1, _ | ⟨u2, us⟩⟩⟩
      · simp at l
      · simp at l
      · refine ⟨false, congrArg V.bl (show _ = false by decide +kernel), iteF ?_⟩
        refine ⟨_, rfl, sz2, fun q8 n8 => ⟨q8, _, rfl, .inr (SqT.of upd_same), rfl, rfl, ?_⟩⟩
        have s8 := same_upd (o := .tup [.int 2, .int 3]) n8
        have eL8 := s8 _ _ eL7
        have hc8 := hc7.same s8
        have k8 := k7.same s8
        generalize upd H7 q8 _ = H8 at *
        refine ⟨true, congrArg V.bl (show _ = true by decide +kernel), iteT ⟨_, rfl, rfl, true, congrArg V.bl (decide_eq_true rfl), iteT ?_⟩⟩
        refine ⟨_, rfl, L, _, _, _, rfl, rfl, SqL.of eL8, atI_nat (j := 0) rfl, _, rfl, L, _, _, _, rfl, rfl, SqL.of eL8, atI_nat (j := 1) rfl, ?_⟩
        exact ⟨x, v, hc8, k8⟩
      · simp at l
    · rcases us with _ | ⟨u0, _ | ⟨u1, us⟩⟩
      · simp at l
      · refine ⟨false, congrArg V.bl (show _ = false by decide +kernel), iteF ?_⟩
        refine ⟨_, rfl, sz2, fun q8 n8 => ⟨q8, _, rfl, .inr (SqT.of upd_same), rfl, rfl, ?_⟩⟩
        have s8 := same_upd (o := .tup [.int 2, .int 3]) n8
        have eL8 := s8 _ _ eL7
        have hc8 := hc7.same s8
        have k8 := k7.same s8
        generalize upd H7 q8 _ = H8 at *
        refine ⟨true, congrArg V.bl (show _ = true by decide +kernel), iteT ⟨_, rfl, rfl, false, congrArg V.bl (decide_eq_false (by decide)), iteF ?_⟩⟩
        refine ⟨_, rfl, L, _, _, _, rfl, rfl, SqL.of eL8, atI_nat (j := 0) rfl, ?_⟩
        exact ⟨x, v, hc8, k8⟩
      · simp at l
    · rcases us with _ | ⟨u0, _ | ⟨u1, us⟩⟩
      · simp at l
      · refine ⟨false, congrArg V.bl (show _ = false by decide +kernel), iteF ?_⟩
        refine ⟨_, rfl, sz2, fun q8 n8 => ⟨q8, _, rfl, .inr (SqT.of upd_same), rfl, rfl, ?_⟩⟩
        have s8 := same_upd (o := .tup [.int 2, .int 3]) n8
        have eL8 := s8 _ _ eL7
        have hc8 := hc7.same s8
        have k8 := k7.same s8
        generalize upd H7 q8 _ = H8 at *
        refine ⟨false, congrArg V.bl (show _ = false by decide +kernel), iteF ⟨_, rfl, rfl, true, congrArg V.bl (decide_eq_true rfl), iteT ?_⟩⟩
        refine ⟨_, rfl, L, _, _, _, rfl, rfl, SqL.of eL8, atI_nat (j := 0) rfl, ?_⟩
        exact ⟨x, v, hc8, k8⟩
      · simp at l
    · rcases us with _ | ⟨u0, _ | ⟨u1, us⟩⟩
      · simp at l
      · refine ⟨false, congrArg V.bl (show _ = false by decide +kernel), iteF ?_⟩
        refine ⟨_, rfl, sz2, fun q8 n8 => ⟨q8, _, rfl, .inr (SqT.of upd_same), rfl, rfl, ?_⟩⟩
        have s8 := same_upd (o := .tup [.int 2, .int 3]) n8
        have eL8 := s8 _ _ eL7
        have hc8 := hc7.same s8
        have k8 := k7.same s8
        generalize upd H7 q8 _ = H8 at *
        refine ⟨false, congrArg V.bl (show _ = false by decide +kernel), iteF ⟨_, rfl, rfl, false, congrArg V.bl (decide_eq_false (by decide)), iteF ?_⟩⟩
        refine ⟨_, rfl, L, _, _, _, rfl, rfl, SqL.of eL8, atI_nat (j := 0) rfl, ?_⟩
        exact ⟨x, v, hc8, k8⟩
      · simp at l
end
end Q4

namespace Q4
open PySem PySem.Spec PyProof.Rows L2 L2H NdefX LamX KT HX XN K1
open PySem.W (Frag)
section
variable {P : Program} {w : World} {K : Frag} {mg : Str → Option Value} {base : Heap} {c : Cx3} {BP fK fW fR : Addr}
theorem roomM {k : Nat} {A : Around} (r : Room k A) (h : Option Value) : RoomH k (A.mark h) := ⟨r.dp, r.un⟩
abbrev tValK2 (K : Frag) (i : Nat) : TE := fun σ H Q => tVar i σ H fun x H1 => ∃ (C e : Addr) (v : V), x = .ref e ∧ XN.KErr H1 C e v ∧ XfC K C ∧ PySem.W.findIn K (.ref C) "value" = some none ∧ Q v H1
def spRaises : Sp := fun vs H Q _ => ∃ (j : Int) (L : Addr) (us : List V) (x : Er) (v : V) (o : O), vs = [.int j, .ref L, .str x.nm, v] ∧ H L = some (.lst us) ∧ Bad H j us x v ∧ OAt H v o ∧ o.fineT = true ∧ ∀ H', Same H H' → Q (.bl true) H'
theorem ok_raises {f fn fw fv : Addr} {fd fdn fdw fdv : FuncData} (T0 : Top K mg "_law_raises" sLRaises pLRaises f fd) (TN : Top K mg "_law_named" sLNamed pLNamed fn fdn) (GN : FnOk P w K mg base (L2N.CX P w) 5 fn fdn pLNamed (spNmE c))
    (TW : Top K mg "_law_word_of" sLWordOf pLWordOf fw fdw) (GW : ∀ e, FnE e P w K mg base CX0 1 fw fdw pLWordOf (spWordOf c)) (TV : Top K mg "_law_is_very" sLIsVery pLIsVery fv fdv) (GV : ∀ e, FnE e P w K mg base CX0 14 fv fdv pLIsVery (spIsVery e)) (EC : Ecs K mg c BP) (B : Blt mg) :
    FnOk P w K mg base CX0 15 f fd pLRaises spRaises := by
  have gB := EC.g
  refine T0.F.ok scLRaises (fun vs H Q E h => ?_) (fun cdv A outer s H vs Q E hr h => ?_)
  · obtain ⟨_, _, _, _, _, _, rfl, _⟩ := h
    rfl
  · obtain ⟨j, L, us, x, v, o, rfl, eL, hb, ho, hf, k⟩ := h
    have hr5 : Room 5 _ := hr.mono (by decide)
    have hr1 : Room 1 _ := hr.mono (by decide)
    refine ⟨_, (pss_cons (XN.ps_tryK rfl rfl rfl scLRaises.nd XN.takes_none (fun W pn xe tkW po => pss_one (ps_expr (pe_callS (E := WE W) GN hr5 rfl TN.g TN.F.kp TN.b (fun σ => L2N.passAt tkW σ) (pa_cons (pv 0) (pa_cons (pv 1) pa_nil)))))
        (.one (i := 4) ⟨rfl, by decide, .inl gB⟩ rfl rfl (fun e cls d pn => pss_one (ps_ret (pe_and (pe_cmpR op_eq (pe_callE (GW e) (roomM hr1 _) rfl rfl TW.g TW.F.kp TW.b pass0 (pa_cons (pv 4) pa_nil)) (pv 2) (nomark _)) (pe_one (pe_callE (GV e) (roomM hr _) rfl rfl TV.g TV.F.kp TV.b pass0 (pa_cons (show PE _ _ (tValK2 K 4) from XN.pe_valK (pv 4)) (pa_cons (pv 3) pa_nil)))))))
        .none))
      (pss_one (ps_ret pe_bl))), ?_⟩
    obtain ⟨xf, xc, xn⟩ := EC.x x
    refine ⟨_, rfl, _, rfl, j, L, us, x, v, rfl, eL, hb, fun d H' s' nd => ?_⟩
    refine ⟨true, EC.p x, (fun z => absurd z (by decide)), fun _ e ne => ?_⟩
    have s2 := same_upd (o := XN.vdict v) nd
    have s3 := same_upd (o := XN.exk e (.ref (x.at_ c)) (some d)) ne
    have nde : d ≠ e := fun z => by rw [← z, upd_same] at ne; cases ne
    have kx : XN.KErr (upd (upd H' d (XN.vdict v)) e (XN.exk e (.ref (x.at_ c)) (some d))) (x.at_ c) e v := ⟨d, upd_same, by rw [upd_ne nde, upd_same]⟩
    have s03 := (s'.trans s2).trans s3
    have hot : HotH e (upd (upd H' d (XN.vdict v)) e (XN.exk e (.ref (x.at_ c)) (some d))) := ⟨_, _, upd_same⟩
    have ho3 := ho.same s03
    generalize upd (upd H' d (XN.vdict v)) e (XN.exk e (.ref (x.at_ c)) (some d)) = H3 at kx s03 hot ho3 ⊢
    dsimp only
    refine ⟨.ref e, rfl, e, x, v, rfl, kx, fun H4 s4 => ⟨_, rfl, rfl, true, congrArg V.bl (decide_eq_true rfl), ?_⟩⟩
    exact ⟨_, rfl, x.at_ c, e, v, rfl, kx.same s4, xf, xn, _, rfl, v, o, rfl, ho3.same s4, hf, hot.same s4, fun H5 s5 => k H5 ((s03.trans s4).trans s5)⟩
end
end Q4

namespace Q4
open PySem PySem.Spec PyProof.Rows L2 KT LamX
open PySem.W (Frag)
/-! ### the law's odd things -/
def wl (w : Str) : Bool := decide (w ∈ (["over", "under", "then"] : List Str))
def oddW (w : Str) : List O := (([.o, (.i 0), (.i 5), (.b true), (.s ""), (.s "A"), (.s "abcdefghi"), (.s "a b"), (.l []), (.d []), (.t []), (.t [(.s w)]), (.t [(.s "over")]), (.t [(.s "over"), (.s w)]), (.t [(.s "over"), (.s w), (.s w), (.s w)]), (.t [(.s "Over"), (.s w), (.s w)])] ++ [(.l [(.s "over"), (.s w), (.s w)]), (.t [(.s "over"), (.s w), .o]), (.t [(.s "under"), (.i 0), (.s w)]), (.t [(.s "then"), (.s w), (.l [(.s "over"), (.s w), (.s w)])]), (.t [(.s "over"), (.l [(.s w)]), (.s w)]), (.t [(.t [(.s "over"), (.s w), (.s w)]), (.s w), (.s w)])]) ++ [(.t [(.s "over"), (.t [(.s "under"), (.s w)]), (.s w)]), (.t [(.s "under"), (.s w), (.t [(.s "over"), (.s w), (.s "A")])]), (.t [.o, (.s w), (.s w)]), (if wl w = true then (.t [(.i 5), (.s w), (.s w)]) else (.t [(.s w), (.s w), (.s w)]))])
section
variable {P : Program} {w_ : World} {K : Frag} {mg : Str → Option Value} {base : Heap}
theorem yo_ifw {ta tb : TE} {σ : L2.St} {H0 : Hp} {w : Str} {x y : O} (e : σ[0]? = some (some (.str w))) (hx : Yo ta σ H0 x) (hy : Yo tb σ H0 y) :
    Yo (tIf (tTest (tOp (rIn K true) (tVar 0) (tTup (tCons (tC (.str "over")) (tCons (tC (.str "under")) (tCons (tC (.str "then")) tNil)))))) ta tb) σ H0 (if wl w = true then y else x) := fun H s Q q => by
  refine ⟨_, e, by show 3 ≤ sizeLine; rw [sizeLine_eq]; omega, fun p np => ?_⟩
  have u1 := same_upd (o := .tup [.str "over", .str "under", .str "then"]) np
  refine ⟨p, _, rfl, .inr (SqT.of upd_same), rfl, rfl, !wl w, congrArg V.bl ?_, ?_⟩
  · rw [if_pos rfl]
    have z := inV_str w ["over", "under", "then"]
    exact congrArg (!·) z
  · cases hb : wl w with
    | true => exact iteF (hy _ (s.trans u1) _ fun v H' s' h' => q v H' (u1.trans s') (by rw [hb]; exact h'))
    | false => exact iteT (hx _ (s.trans u1) _ fun v H' s' h' => q v H' (u1.trans s') (by rw [hb]; exact h'))
def spLOddW : Sp := fun vs H Q _ => ∃ w : Str, vs = [.str w] ∧ IsW w ∧ ∀ v H', Same H H' → OAt H' v (.l (oddW w)) → Q v H'
theorem ok_lOddW {f : Addr} {fd : FuncData} (T : Top K mg "_law_odd_kinds" sLOddKinds pLOddKinds f fd) : FnOk P w_ K mg base CX0 1 f fd pLOddKinds spLOddW := by
  refine T.F.ok scLOddKinds (fun vs H Q E h => ?_) (fun cdv A outer s H vs Q E hr h => ?_)
  · obtain ⟨_, rfl, _⟩ := h
    rfl
  · obtain ⟨w, rfl, hW, k⟩ := h
    have hw8 := hW.2.1
    have hw : w.length ≤ 1000000 := by omega
    refine ⟨_, (pss_cons (ps_set (i := 1) scLOddKinds.nd rfl (Or.inl rfl) (pe_lst (pa_cons pe_non (pa_cons pe_int (pa_cons pe_int (pa_cons pe_bl (pa_cons pe_str (pa_cons pe_str (pa_cons pe_str (pa_cons pe_str (pa_cons (pe_lst pa_nil) (pa_cons pe_dnewK (pa_cons (pe_tup pa_nil) (pa_cons (pe_tup (pa_cons (pv 0) pa_nil)) (pa_cons (pe_tup (pa_cons pe_str pa_nil)) (pa_cons (pe_tup (pa_cons pe_str (pa_cons (pv 0) pa_nil))) (pa_cons (pe_tup (pa_cons pe_str (pa_cons (pv 0) (pa_cons (pv 0) (pa_cons (pv 0) pa_nil))))) (pa_cons (pe_tup (pa_cons pe_str (pa_cons (pv 0) (pa_cons (pv 0) pa_nil)))) pa_nil))))))))))))))))))
      (pss_cons (ps_set (i := 1) scLOddKinds.nd rfl (Or.inl rfl) (pe_op op_cat (pv 1) (pe_lst (pa_cons (pe_lst (pa_cons pe_str (pa_cons (pv 0) (pa_cons (pv 0) pa_nil)))) (pa_cons (pe_tup (pa_cons pe_str (pa_cons (pv 0) (pa_cons pe_non pa_nil)))) (pa_cons (pe_tup (pa_cons pe_str (pa_cons pe_int (pa_cons (pv 0) pa_nil)))) (pa_cons (pe_tup (pa_cons pe_str (pa_cons (pv 0) (pa_cons (pe_lst (pa_cons pe_str (pa_cons (pv 0) (pa_cons (pv 0) pa_nil)))) pa_nil)))) (pa_cons (pe_tup (pa_cons pe_str (pa_cons (pe_lst (pa_cons (pv 0) pa_nil)) (pa_cons (pv 0) pa_nil)))) (pa_cons (pe_tup (pa_cons (pe_tup (pa_cons pe_str (pa_cons (pv 0) (pa_cons (pv 0) pa_nil)))) (pa_cons (pv 0) (pa_cons (pv 0) pa_nil)))) pa_nil)))))))))
      (pss_one (ps_ret (pe_op op_cat (pv 1) (pe_lst (pa_cons (pe_tup (pa_cons pe_str (pa_cons (pe_tup (pa_cons pe_str (pa_cons (pv 0) pa_nil))) (pa_cons (pv 0) pa_nil)))) (pa_cons (pe_tup (pa_cons pe_str (pa_cons (pv 0) (pa_cons (pe_tup (pa_cons pe_str (pa_cons (pv 0) (pa_cons pe_str pa_nil)))) pa_nil)))) (pa_cons (pe_tup (pa_cons pe_non (pa_cons (pv 0) (pa_cons (pv 0) pa_nil)))) (pa_cons (pe_ifExp (pt_cmpR op_notIn_seq (pv 0) (pe_tup (pa_cons pe_str (pa_cons pe_str (pa_cons pe_str pa_nil)))) (by rfl)) (pe_tup (pa_cons (pv 0) (pa_cons (pv 0) (pa_cons (pv 0) pa_nil)))) (pe_tup (pa_cons pe_int (pa_cons (pv 0) (pa_cons (pv 0) pa_nil))))) pa_nil)))))))))), ?_⟩
    refine yo_set (yo_lst (yoa_cons yo_non (yoa_cons yo_int (yoa_cons yo_int (yoa_cons yo_bl (yoa_cons (yo_str (Nat.le_of_ble_eq_true rfl)) (yoa_cons (yo_str (Nat.le_of_ble_eq_true rfl)) (yoa_cons (yo_str (Nat.le_of_ble_eq_true rfl)) (yoa_cons (yo_str (Nat.le_of_ble_eq_true rfl)) (yoa_cons (yo_lst yoa_nil (Nat.le_of_ble_eq_true rfl)) (yoa_cons yo_d0 (yoa_cons (yo_tup yoa_nil (Nat.le_of_ble_eq_true rfl)) (yoa_cons (yo_tup (yoa_cons (yo_var rfl (.s hw)) yoa_nil) (Nat.le_of_ble_eq_true rfl)) (yoa_cons (yo_tup (yoa_cons (yo_str (Nat.le_of_ble_eq_true rfl)) yoa_nil) (Nat.le_of_ble_eq_true rfl)) (yoa_cons (yo_tup (yoa_cons (yo_str (Nat.le_of_ble_eq_true rfl)) (yoa_cons (yo_var rfl (.s hw)) yoa_nil)) (Nat.le_of_ble_eq_true rfl)) (yoa_cons (yo_tup (yoa_cons (yo_str (Nat.le_of_ble_eq_true rfl)) (yoa_cons (yo_var rfl (.s hw)) (yoa_cons (yo_var rfl (.s hw)) (yoa_cons (yo_var rfl (.s hw)) yoa_nil)))) (Nat.le_of_ble_eq_true rfl)) (yoa_cons (yo_tup (yoa_cons (yo_str (Nat.le_of_ble_eq_true rfl)) (yoa_cons (yo_var rfl (.s hw)) (yoa_cons (yo_var rfl (.s hw)) yoa_nil))) (Nat.le_of_ble_eq_true rfl)) yoa_nil)))))))))))))))) (Nat.le_of_ble_eq_true rfl)) (Same.refl _) fun v1 H1 s1 h1 => ?_
    refine yo_set (yo_cat (yo_var rfl h1) (yo_lst (yoa_cons (yo_lst (yoa_cons (yo_str (Nat.le_of_ble_eq_true rfl)) (yoa_cons (yo_var rfl (.s hw)) (yoa_cons (yo_var rfl (.s hw)) yoa_nil))) (Nat.le_of_ble_eq_true rfl)) (yoa_cons (yo_tup (yoa_cons (yo_str (Nat.le_of_ble_eq_true rfl)) (yoa_cons (yo_var rfl (.s hw)) (yoa_cons yo_non yoa_nil))) (Nat.le_of_ble_eq_true rfl)) (yoa_cons (yo_tup (yoa_cons (yo_str (Nat.le_of_ble_eq_true rfl)) (yoa_cons yo_int (yoa_cons (yo_var rfl (.s hw)) yoa_nil))) (Nat.le_of_ble_eq_true rfl)) (yoa_cons (yo_tup (yoa_cons (yo_str (Nat.le_of_ble_eq_true rfl)) (yoa_cons (yo_var rfl (.s hw)) (yoa_cons (yo_lst (yoa_cons (yo_str (Nat.le_of_ble_eq_true rfl)) (yoa_cons (yo_var rfl (.s hw)) (yoa_cons (yo_var rfl (.s hw)) yoa_nil))) (Nat.le_of_ble_eq_true rfl)) yoa_nil))) (Nat.le_of_ble_eq_true rfl)) (yoa_cons (yo_tup (yoa_cons (yo_str (Nat.le_of_ble_eq_true rfl)) (yoa_cons (yo_lst (yoa_cons (yo_var rfl (.s hw)) yoa_nil) (Nat.le_of_ble_eq_true rfl)) (yoa_cons (yo_var rfl (.s hw)) yoa_nil))) (Nat.le_of_ble_eq_true rfl)) (yoa_cons (yo_tup (yoa_cons (yo_tup (yoa_cons (yo_str (Nat.le_of_ble_eq_true rfl)) (yoa_cons (yo_var rfl (.s hw)) (yoa_cons (yo_var rfl (.s hw)) yoa_nil))) (Nat.le_of_ble_eq_true rfl)) (yoa_cons (yo_var rfl (.s hw)) (yoa_cons (yo_var rfl (.s hw)) yoa_nil))) (Nat.le_of_ble_eq_true rfl)) yoa_nil)))))) (Nat.le_of_ble_eq_true rfl)) (Nat.le_of_ble_eq_true rfl)) (Same.refl _) fun v2 H2 s2 h2 => ?_
    exact yo_ret (yo_cat (yo_var rfl h2) (yo_lst (yoa_cons (yo_tup (yoa_cons (yo_str (Nat.le_of_ble_eq_true rfl)) (yoa_cons (yo_tup (yoa_cons (yo_str (Nat.le_of_ble_eq_true rfl)) (yoa_cons (yo_var rfl (.s hw)) yoa_nil)) (Nat.le_of_ble_eq_true rfl)) (yoa_cons (yo_var rfl (.s hw)) yoa_nil))) (Nat.le_of_ble_eq_true rfl)) (yoa_cons (yo_tup (yoa_cons (yo_str (Nat.le_of_ble_eq_true rfl)) (yoa_cons (yo_var rfl (.s hw)) (yoa_cons (yo_tup (yoa_cons (yo_str (Nat.le_of_ble_eq_true rfl)) (yoa_cons (yo_var rfl (.s hw)) (yoa_cons (yo_str (Nat.le_of_ble_eq_true rfl)) yoa_nil))) (Nat.le_of_ble_eq_true rfl)) yoa_nil))) (Nat.le_of_ble_eq_true rfl)) (yoa_cons (yo_tup (yoa_cons yo_non (yoa_cons (yo_var rfl (.s hw)) (yoa_cons (yo_var rfl (.s hw)) yoa_nil))) (Nat.le_of_ble_eq_true rfl)) (yoa_cons (yo_ifw rfl (yo_tup (yoa_cons (yo_var rfl (.s hw)) (yoa_cons (yo_var rfl (.s hw)) (yoa_cons (yo_var rfl (.s hw)) yoa_nil))) (Nat.le_of_ble_eq_true rfl)) (yo_tup (yoa_cons yo_int (yoa_cons (yo_var rfl (.s hw)) (yoa_cons (yo_var rfl (.s hw)) yoa_nil))) (Nat.le_of_ble_eq_true rfl))) yoa_nil)))) (Nat.le_of_ble_eq_true rfl)) (Nat.le_of_ble_eq_true rfl)) (Same.refl _) fun v H s h => k v H ((s1.trans s2).trans s) h
end
end Q4

namespace Q4
open PySem PySem.Spec PyProof.Rows L2 NdefX LamX KT
open PySem.W (Frag)
theorem NoK.of {H' : Hp} {v : V} {x : O} (h : OAt H' v x) (k1 : kdO 3 x = false) (k2 : x.dep ≤ 3) : NoK H' v := by
  obtain ⟨n, hn, ok⟩ := kdO_ok 3 x k2
  rw [k1] at ok
  exact ⟨n, ok.ov h, by have : (2 : Nat) ^ (3 + 1) = 16 := by decide
                        omega⟩
theorem wb_lit2 : isWB "a b" = false := by decide +kernel
theorem inS_wl (w : Str) : inS w = wl w := by
  unfold inS wl sgs
  rw [Bool.eq_iff_iff, decide_eq_true_eq, decide_eq_true_eq]
  simp only [List.mem_cons, List.not_mem_nil, or_false]
  constructor
  · rintro (h | h | h)
    · exact .inl h
    · exact .inr (.inr h)
    · exact .inr (.inl h)
  · rintro (h | h | h)
    · exact .inl h
    · exact .inr (.inr h)
    · exact .inr (.inl h)
/-- of each odd kind: it is no type, and a mark may be put into it -/
theorem oddW_no {w : Str} (h : IsW w) : ∀ x ∈ oddW w, kdO 3 x = false ∧ x.dep ≤ 3 ∧ x.fineT = true := by
  have e0 : isWB w = true := isWB_of h
  obtain ⟨b1, b2, b3, b4⟩ := wb_lit
  have b5 := wb_lit2
  obtain ⟨i1, i2, i3, i4, i5, i6, i7⟩ := inS_lit
  intro x hx
  simp only [oddW, List.append_assoc, List.cons_append, List.nil_append, List.mem_cons, List.not_mem_nil, or_false] at hx
  rcases hx with rfl | rfl | rfl | rfl | rfl | rfl | rfl | rfl | rfl | rfl | rfl | rfl | rfl | rfl | rfl | rfl | rfl | rfl | rfl | rfl | rfl | rfl | rfl | rfl | rfl | rfl
  case' inr.inr.inr.inr.inr.inr.inr.inr.inr.inr.inr.inr.inr.inr.inr.inr.inr.inr.inr.inr.inr.inr.inr.inr.inr =>
    have iw := inS_wl w
    cases hb : wl w <;> rw [hb] at iw
  all_goals (refine ⟨?_, ?_, ?_⟩ <;> simp [*, kdO, isWordO, O.dep, odepAll, odepKs, O.fineT, O.wf, owfAll, owfKs])
end Q4

namespace Q4
open PySem PySem.Spec PyProof.Rows L2 NdefX LamX KT
open PySem.W (Frag)
/-! ### the tries of the law: (door, args), each such that an error comes -/
def DoorQ (x : Er) (bv : V) (H : Hp) (v : V) : Prop := ∃ (q l : Addr) (us : List V) (j : Int), v = .ref q ∧ H q = some (.tup [.int j, .ref l]) ∧ H l = some (.lst us) ∧ Bad H j us x bv
theorem DoorQ.same {x : Er} {bv : V} {H H' : Hp} {v : V} (s : Same H H') (h : DoorQ x bv H v) : DoorQ x bv H' v := by
  obtain ⟨q, l, us, j, e, e1, e2, k⟩ := h
  exact ⟨q, l, us, j, e, s _ _ e1, s _ _ e2, k.same s⟩
section
variable {σ : L2.St} {H0 : Hp}
theorem asg_lst {ta : TA} {g : TG} {u : TS} {D0 : L2.Ends} {H : Hp} (h : ta σ H fun xs H1 => xs.length ≤ sizeLine ∧ ∀ p, H1 p = none → g (.ref p) σ (upd H1 p (.lst xs)) (u D0)) : tSeq (tAsg (tLst ta) g) u D0 σ H := h
def Yp (Pd : Hp → V → Prop) (t : TE) (σ : L2.St) (H0 : Hp) : Prop := ∀ H, Same H0 H → ∀ Q : VK, (∀ v H', Same H H' → Pd H' v → Q v H') → t σ H Q
def YpA (Pd : Hp → V → Prop) (n : Nat) (t : TA) (σ : L2.St) (H0 : Hp) : Prop := ∀ H, Same H0 H → ∀ Q : List V → Hp → Prop, (∀ vs H', Same H H' → vs.length = n → (∀ v ∈ vs, Pd H' v) → Q vs H') → t σ H Q
theorem ypa_nil {Pd : Hp → V → Prop} : YpA Pd 0 tNil σ H0 := fun H _ Q q => q [] H (Same.refl H) rfl fun v m => nomatch m
theorem ypa_cons {Pd : Hp → V → Prop} (st : ∀ {H H' v}, Same H H' → Pd H v → Pd H' v) {n : Nat} {t : TE} {tr : TA} (h : Yp Pd t σ H0) (hr : YpA Pd n tr σ H0) : YpA Pd (n + 1) (tCons t tr) σ H0 := fun H s Q q =>
  h H s _ fun v H1 s1 hv => hr H1 (s.trans s1) _ fun vs H2 s2 ln hvs => q (v :: vs) H2 (s1.trans s2) (by rw [List.length_cons, ln]) fun u m => by
    rcases List.mem_cons.mp m with rfl | m
    · exact st s2 hv
    · exact hvs u m
end
/-- arguments that are there -/
def VA (t : TA) (σ : L2.St) (xs : List V) : Prop := ∀ (H : Hp) (Q : List V → Hp → Prop), Q xs H → t σ H Q
section
variable {σ : L2.St} {xs : List V} {tr : TA}
theorem va_nil : VA tNil σ [] := fun H Q q => q
theorem va_var {i : Nat} {v : V} (e : σ[i]? = some (some v)) (h : VA tr σ xs) : VA (tCons (tVar i) tr) σ (v :: xs) := fun H Q q => ⟨v, e, h H _ q⟩
theorem va_non (h : VA tr σ xs) : VA (tCons (tC .non) tr) σ (.non :: xs) := fun H Q q => h H _ q
theorem va_int {n : Int} (h : VA tr σ xs) : VA (tCons (tC (.int n)) tr) σ (.int n :: xs) := fun H Q q => h H _ q
theorem va_str {z : Str} (h : VA tr σ xs) : VA (tCons (tC (.str z)) tr) σ (.str z :: xs) := fun H Q q => h H _ q
theorem yp_door {x : Er} {bv : V} {t : TA} {H0 : Hp} (j : Int) (h : VA t σ xs) (l : xs.length ≤ 100) (k : ∀ G, Same H0 G → Bad G j xs x bv) : Yp (DoorQ x bv) (tTup (tCons (tC (.int j)) (tCons (tLst t) tNil))) σ H0 := fun H s Q q =>
  h H _ ⟨by rw [sizeLine_eq]; omega, fun a na => ⟨by show 2 ≤ sizeLine; rw [sizeLine_eq]; omega, fun b nb => by
    have u1 := same_upd (o := .lst xs) na
    have u2 := same_upd (o := .tup [.int j, .ref a]) nb
    exact q _ _ (u1.trans u2) ⟨b, a, xs, j, rfl, upd_same, u2 _ _ upd_same, k _ ((s.trans u1).trans u2)⟩⟩⟩
theorem yd_nil {x : Er} {bv : V} {H0 : Hp} : YpA (DoorQ x bv) 0 tNil σ H0 := ypa_nil
theorem yd_cons {x : Er} {bv : V} {n : Nat} {t : TE} {tr : TA} {H0 : Hp} (h : Yp (DoorQ x bv) t σ H0) (hr : YpA (DoorQ x bv) n tr σ H0) : YpA (DoorQ x bv) (n + 1) (tCons t tr) σ H0 := ypa_cons (Pd := DoorQ x bv) (fun s h => DoorQ.same s h) h hr
theorem tries_set {x : Er} {bv : V} {n i : Nat} {ta : TA} {H : Hp} {u : TS} {D0 : L2.Ends} (y : YpA (DoorQ x bv) n ta σ H) (l : n ≤ 100) (k : ∀ L vs H', Same H H' → H' L = some (.lst vs) → vs.length = n → (∀ v ∈ vs, DoorQ x bv H' v) → u D0 (σ.set i (some (.ref L))) H') : tSeq (tAsg (tLst ta) (gName i)) u D0 σ H :=
  asg_lst (y H (Same.refl _) _ fun vs H1 s1 ln hv => ⟨by rw [ln, sizeLine_eq]; omega, fun p np => k p vs _ (s1.trans (same_upd np)) upd_same ln fun v m => (hv v m).same (same_upd np)⟩)
theorem tries_cat {x : Er} {bv : V} {n m i : Nat} {L : Addr} {vs : List V} {ta : TA} {H : Hp} {u : TS} {D0 : L2.Ends} (e8 : σ[i]? = some (some (.ref L))) (eL : H L = some (.lst vs)) (lm : vs.length = m) (hv : ∀ v ∈ vs, DoorQ x bv H v) (y : YpA (DoorQ x bv) n ta σ H) (l : n + m ≤ 100)
    (k : ∀ L' vs' H', Same H H' → H' L' = some (.lst vs') → vs'.length = m + n → (∀ v ∈ vs', DoorQ x bv H' v) → u D0 (σ.set i (some (.ref L'))) H') : tSeq (tAsg (tOp rCat (tVar i) (tLst ta)) (gName i)) u D0 σ H :=
  ⟨_, e8, y H (Same.refl _) _ fun ws H1 s1 ln hw => ⟨by rw [ln, sizeLine_eq]; omega, fun p np => by
    have s2 := s1.trans (same_upd (o := .lst ws) np)
    refine ⟨L, p, vs, ws, rfl, rfl, s2 _ _ eL, upd_same, by rw [lm, ln, sizeLine_eq]; omega, fun q nq => ?_⟩
    have s3 := same_upd (o := .lst (vs ++ ws)) nq
    exact k q (vs ++ ws) _ (s2.trans s3) upd_same (by rw [List.length_append, lm, ln]) fun v mv => by
      rcases List.mem_append.mp mv with mv | mv
      · exact (hv v mv).same (s2.trans s3)
      · exact (hw v mv).same ((same_upd np).trans s3)⟩⟩
end

end Q4

namespace Q4
open PySem PySem.Spec PyProof.Rows L2 NdefX LamX KT
open PySem.W (Frag)
theorem rep_all (n : Nat) : (List.replicate n true).all id = true := by
  rw [List.all_eq_true]
  intro b hb
  exact (List.mem_replicate.mp hb).2
theorem yo_go {te : TE} {σ : L2.St} {H0 : Hp} {d : O} {Q : VK} (h : Yo te σ H0 d) (q : ∀ v H', Same H0 H' → OAt H' v d → Q v H') : te σ H0 Q := h H0 (Same.refl _) Q q
theorem retall_go {K : Frag} {ta : TA} {g : TG} {tt : TT} {te : TE} {vs : List Nat} {D0 : L2.Ends} {σ : L2.St} {H : Hp} (h : tTup ta σ H fun x H1 => ∃ a, x = .ref a ∧ (∃ xs, SqT K H1 a xs) ∧ tLc (fun _ H R => R (Itt K a) H) g tt te vs σ H1 fun y H2 => rAll K [y] H2 D0.rt) : tRet (tCB (rAll K) (tCons (tLc (iTup K (tTup ta)) g tt te vs) tNil)) D0 σ H := h
def hasTO (zs : List Str) : O → Bool
  | .s z => decide (z ∈ zs)
  | _ => false
theorem hasT_of {H : Hp} {v : V} {x : O} (h : OAt H v x) (zs : List Str) : XO.hasT zs v = hasTO zs x := by
  cases h <;> rfl
def oddV : List O := [.o, .i 0, .s "", .s "Over", .s "then", .s "over ", .b true, .l [.s "over"], .t [.s "over"], .d [], .s "overs"]
theorem oddV_ok : ∀ x ∈ oddV, hasTO ["over"] x = false ∧ hasTO ["under"] x = false ∧ x.fineT = true := by decide +kernel
section
variable {P : Program} {w_ : World} {K : Frag} {mg : Str → Option Value} {base : Heap}
def spKFall : Sp := fun vs H Q _ => ∃ (w : Str) (vk : V) (t : Ty), vs = [.str w, vk] ∧ IsW w ∧ GoodK H vk t ∧ ∀ H', Same H H' → Q (.bl true) H'
theorem ok_kfall {f fO fR : Addr} {fd dO dR : FuncData} (T0 : Top K mg "_law_kinds_fall" sLKindsFall pLKindsFall f fd) (TO : Top K mg "_law_odd_kinds" sLOddKinds pLOddKinds fO dO) (GO : FnOk P w_ K mg base CX0 1 fO dO pLOddKinds spLOddW)
    (TR : Top K mg "_law_raises" sLRaises pLRaises fR dR) (GR : FnOk P w_ K mg base CX0 15 fR dR pLRaises spRaises) (B : Blt mg) : FnOk P w_ K mg base CX0 16 f fd pLKindsFall spKFall := by
  refine T0.F.ok scLKindsFall (fun vs H Q E h => ?_) (fun cdv A outer s H vs Q E hr h => ?_)
  · obtain ⟨_, _, _, rfl, _⟩ := h
    rfl
  · have hr1 : Room 1 _ := hr.mono (by decide)
    obtain ⟨w, vk, t, rfl, hw, hk, k⟩ := h
    refine ⟨_, (pss_cons (ps_for PassesOwn.never rfl (pi_list (pe_call GO hr1 rfl TO.g TO.F.kp TO.b .nil pass0 (pa_cons (pv 0) pa_nil))) (pg_name (i := 2) scLKindsFall.nd rfl (Or.inr rfl))
      (pss_cons (ps_set (i := 3) scLKindsFall.nd rfl (Or.inl rfl) (pe_lst (pa_cons (pe_tup (pa_cons pe_int (pa_cons (pe_lst (pa_cons (pv 2) (pa_cons (pv 1) (pa_cons pe_str pa_nil)))) pa_nil))) (pa_cons (pe_tup (pa_cons pe_int (pa_cons (pe_lst (pa_cons (pv 2) (pa_cons pe_non (pa_cons pe_non pa_nil)))) pa_nil))) (pa_cons (pe_tup (pa_cons pe_int (pa_cons (pe_lst (pa_cons (pv 1) (pa_cons (pv 2) (pa_cons pe_str pa_nil)))) pa_nil))) (pa_cons (pe_tup (pa_cons pe_int (pa_cons (pe_lst (pa_cons (pv 1) (pa_cons (pv 2) (pa_cons pe_non pa_nil)))) pa_nil))) (pa_cons (pe_tup (pa_cons pe_int (pa_cons (pe_lst (pa_cons (pv 2) (pa_cons (pv 1) pa_nil))) pa_nil))) (pa_cons (pe_tup (pa_cons pe_int (pa_cons (pe_lst (pa_cons (pv 2) (pa_cons pe_non pa_nil))) pa_nil))) (pa_cons (pe_tup (pa_cons pe_int (pa_cons (pe_lst (pa_cons (pv 1) (pa_cons (pv 2) pa_nil))) pa_nil))) pa_nil)))))))))
      (pss_cons (ps_set (i := 3) scLKindsFall.nd rfl (Or.inl rfl) (pe_op op_cat (pv 3) (pe_lst (pa_cons (pe_tup (pa_cons pe_int (pa_cons (pe_lst (pa_cons (pv 2) (pa_cons (pv 1) pa_nil))) pa_nil))) (pa_cons (pe_tup (pa_cons pe_int (pa_cons (pe_lst (pa_cons (pv 2) (pa_cons pe_non pa_nil))) pa_nil))) (pa_cons (pe_tup (pa_cons pe_int (pa_cons (pe_lst (pa_cons (pv 1) (pa_cons (pv 2) pa_nil))) pa_nil))) (pa_cons (pe_tup (pa_cons pe_int (pa_cons (pe_lst (pa_cons (pv 2) pa_nil)) pa_nil))) (pa_cons (pe_tup (pa_cons pe_int (pa_cons (pe_lst (pa_cons (pv 2) pa_nil)) pa_nil))) (pa_cons (pe_tup (pa_cons pe_int (pa_cons (pe_lst (pa_cons (pv 2) pa_nil)) pa_nil))) pa_nil)))))))))
      (pss_one (ps_if (pt_not (pt_val (pe_callB (cr_all rfl) (by rfl) B.all (by decide +kernel) (pa_cons (pe_lc (own := [("door", 4), ("args", 5)]) (g := (gTup K 2 (gCons (gName 4) (gCons (gName 5) gNil)))) (tt := tYes) rfl scLKindsFall.nd (pi_list (pv 3)) (blkOk_by (N := nLKindsFall) (sc := defScope sLKindsFall) (by decide +kernel)) (fun _ _ _ _ _ => (pg_tup (by rfl) (pgs_cons (pg_name (i := 4) scLKindsFall.nd rfl (Or.inl rfl)) (pgs_cons (pg_name (i := 5) scLKindsFall.nd rfl (Or.inl rfl)) pgs_nil)))) (fun _ _ _ _ _ => pts_nil) (fun _ _ _ _ _ => (pe_call GR hr rfl TR.g TR.F.kp TR.b .nil pass0 (pa_cons (pv 4) (pa_cons (pv 5) (pa_cons pe_str (pa_cons (pv 2) pa_nil))))))) pa_nil)))) (pss_one (ps_ret pe_bl)) pss_nil)))))
      (pss_one (ps_ret (pe_callB (cr_all rfl) (by rfl) B.all (by decide +kernel) (pa_cons (pe_lc (own := [("odd", 2)]) (g := (gName 2)) (tt := tYes) rfl scLKindsFall.nd (pi_tup (pe_tup (pa_cons pe_non (pa_cons pe_int (pa_cons pe_str (pa_cons pe_str (pa_cons pe_str (pa_cons pe_str (pa_cons pe_bl (pa_cons (pe_lst (pa_cons pe_str pa_nil)) (pa_cons (pe_tup (pa_cons pe_str pa_nil)) (pa_cons pe_dnewK (pa_cons pe_str pa_nil))))))))))))) (blkOk_by (N := nLKindsFall) (sc := defScope sLKindsFall) (by decide +kernel)) (fun _ _ _ _ _ => pg_name (i := 2) scLKindsFall.nd rfl (Or.inl rfl)) (fun _ _ _ _ _ => pts_nil) (fun _ _ _ _ _ => (pe_call GR hr rfl TR.g TR.F.kp TR.b .nil pass0 (pa_cons pe_int (pa_cons (pe_lst (pa_cons (pv 1) (pa_cons (pv 0) (pa_cons (pv 2) pa_nil)))) (pa_cons pe_str (pa_cons (pv 2) pa_nil))))))) pa_nil))))), ?_⟩
    refine ⟨_, rfl, w, rfl, hw, fun v H5 s5 hO => ?_⟩
    cases hO with
    | @l _ LO uo _ eL hU =>
    have hU := hU.same rm_sub
    refine ⟨LO, rfl, ⟨_, SqL.of eL⟩, ?_⟩
    refine for_list (K := K) (xs := uo) (fun i σ H' => ∃ v2 v3 v4 v5, σ = [some (.str w), some vk, v2, v3, v4, v5] ∧ Same H5 H') ⟨_, _, _, _, rfl, Same.refl _⟩ (fun i σ H' _ ⟨_, _, _, _, _, q⟩ => SqL.of (q _ _ eL)) ?_ ?_
    · rintro i y σ H7 hy ⟨v2, v3, v4, v5, rfl, e7⟩
      obtain ⟨d, hd, hyd⟩ := hU.at_ hy
      obtain ⟨k1, k2, ft⟩ := oddW_no hw d (List.mem_of_getElem? hd)
      have y7 := hyd.same e7
      refine gN ?_
      have KN : ∀ {G : Hp}, Same H7 G → NoK G y := fun q => NoK.of (y7.same q) k1 k2
      have KA : ∀ {G : Hp}, Same H7 G → KdR G vk := fun q => ⟨t, hk.same ((s5.trans e7).trans q)⟩
      dsimp only
      refine tries_set (x := .kind) (bv := y) (yd_cons (yp_door 0 (va_var (i := 2) rfl (va_var (i := 1) rfl (va_str va_nil))) (Nat.le_of_ble_eq_true rfl) fun G sG => .r1 (KN sG)) (yd_cons (yp_door 0 (va_var (i := 2) rfl (va_non (va_non va_nil))) (Nat.le_of_ble_eq_true rfl) fun G sG => .r1 (KN sG)) (yd_cons (yp_door 0 (va_var (i := 1) rfl (va_var (i := 2) rfl (va_str va_nil))) (Nat.le_of_ble_eq_true rfl) fun G sG => .r2 (KA sG) (KN sG)) (yd_cons (yp_door 0 (va_var (i := 1) rfl (va_var (i := 2) rfl (va_non va_nil))) (Nat.le_of_ble_eq_true rfl) fun G sG => .r2 (KA sG) (KN sG)) (yd_cons (yp_door 1 (va_var (i := 2) rfl (va_var (i := 1) rfl va_nil)) (Nat.le_of_ble_eq_true rfl) fun G sG => .c1 (KN sG)) (yd_cons (yp_door 1 (va_var (i := 2) rfl (va_non va_nil)) (Nat.le_of_ble_eq_true rfl) fun G sG => .c1 (KN sG)) (yd_cons (yp_door 1 (va_var (i := 1) rfl (va_var (i := 2) rfl va_nil)) (Nat.le_of_ble_eq_true rfl) fun G sG => .c2 (KA sG) (KN sG)) yd_nil))))))) (Nat.le_of_ble_eq_true rfl) fun Lt0 tv0 Ht0 st0 et0 lt0 dt0 => ?_
      have sT0 := st0
      refine tries_cat (x := .kind) (bv := y) (L := Lt0) (vs := tv0) rfl et0 lt0 dt0 (yd_cons (yp_door 2 (va_var (i := 2) rfl (va_var (i := 1) rfl va_nil)) (Nat.le_of_ble_eq_true rfl) fun G sG => .d1 (KN (sT0.trans sG))) (yd_cons (yp_door 2 (va_var (i := 2) rfl (va_non va_nil)) (Nat.le_of_ble_eq_true rfl) fun G sG => .d1 (KN (sT0.trans sG))) (yd_cons (yp_door 2 (va_var (i := 1) rfl (va_var (i := 2) rfl va_nil)) (Nat.le_of_ble_eq_true rfl) fun G sG => .d2 (KA (sT0.trans sG)) (KN (sT0.trans sG))) (yd_cons (yp_door 3 (va_var (i := 2) rfl va_nil) (Nat.le_of_ble_eq_true rfl) fun G sG => .s1 (KN (sT0.trans sG))) (yd_cons (yp_door 4 (va_var (i := 2) rfl va_nil) (Nat.le_of_ble_eq_true rfl) fun G sG => .p1 (KN (sT0.trans sG))) (yd_cons (yp_door 5 (va_var (i := 2) rfl va_nil) (Nat.le_of_ble_eq_true rfl) fun G sG => .k1 (KN (sT0.trans sG))) yd_nil)))))) (Nat.le_of_ble_eq_true rfl) fun Lt1 tv1 Ht1 st1 et1 lt1 dt1 => ?_
      have sT1 := sT0.trans st1
      refine ⟨_, rfl, Lt1, rfl, ⟨_, SqL.of et1⟩, fun Db hDb => ?_⟩
      refine lc_list (K := K) (xs := tv1) (fun i H' => Same Ht1 H' ∧ H' Db = some (.lst (List.replicate i (.bl true)))) ⟨same_upd hDb, upd_same⟩ (fun i H' _ z => SqL.of (z.1 _ _ et1)) ?_ ?_
      · rintro i z Hi hz ⟨ei, eDi⟩
        have i5 : i < tv1.length := (List.getElem?_eq_some_iff.mp hz).1
        obtain ⟨q, l, us, j, rfl, eq, el, hb⟩ := dt1 z (List.mem_of_getElem? hz)
        refine ⟨q, _, rfl, SqT.of (ei _ _ eq), rfl, _, _, rfl, _, _, rfl, rfl, rfl, ?_⟩
        refine ⟨_, rfl, _, rfl, _, rfl, j, l, us, .kind, y, d, rfl, ei _ _ el, hb.same ei, y7.same (sT1.trans ei), ft, fun H8 s8 => ?_⟩
        have eDv := s8 _ _ eDi
        exact ⟨_, eDv, by rw [List.length_replicate, sizeLine_eq]; omega, same_over (ei.trans s8) hDb, by rw [upd_same, ← List.replicate_succ']⟩
      · rintro Hf ⟨ef, eDf⟩
        refine ⟨Db, List.replicate tv1.length true, rfl, SqL.of (by rw [eDf, List.map_replicate]), true, congrArg V.bl (rep_all _), iteF ?_⟩
        exact ⟨_, _, _, _, rfl, e7.trans (sT1.trans ef)⟩
    · rintro σ H7 ⟨v2, v3, v4, v5, rfl, e7⟩
      have s57 := s5.trans e7
      have hk7 := hk.same s57
      dsimp only
      refine retall_go ?_
      refine yo_go (d := .t oddV) (yo_tup (yoa_cons yo_non (yoa_cons yo_int (yoa_cons (yo_str (Nat.le_of_ble_eq_true rfl)) (yoa_cons (yo_str (Nat.le_of_ble_eq_true rfl)) (yoa_cons (yo_str (Nat.le_of_ble_eq_true rfl)) (yoa_cons (yo_str (Nat.le_of_ble_eq_true rfl)) (yoa_cons yo_bl (yoa_cons (yo_lst (yoa_cons (yo_str (Nat.le_of_ble_eq_true rfl)) yoa_nil) (Nat.le_of_ble_eq_true rfl)) (yoa_cons (yo_tup (yoa_cons (yo_str (Nat.le_of_ble_eq_true rfl)) yoa_nil) (Nat.le_of_ble_eq_true rfl)) (yoa_cons yo_d0 (yoa_cons (yo_str (Nat.le_of_ble_eq_true rfl)) yoa_nil))))))))))) (Nat.le_of_ble_eq_true rfl)) fun v H8 s8 hv => ?_
      cases hv with
      | @t _ pT us ds eT hx =>
      refine ⟨pT, rfl, ⟨_, SqT.of eT⟩, fun Db hDb => ?_⟩
      refine lc_tup (K := K) (xs := us) (fun i H' => Same H8 H' ∧ H' Db = some (.lst (List.replicate i (.bl true)))) ⟨same_upd hDb, upd_same⟩ (fun i H' _ z => SqT.of (z.1 _ _ eT)) ?_ ?_
      · rintro i z Hi hz ⟨ei, eDi⟩
        have i5 : i < us.length := (List.getElem?_eq_some_iff.mp hz).1
        obtain ⟨d, hd, hzd⟩ := hx.at_ hz
        obtain ⟨o1, o2, o3⟩ := oddV_ok d (List.mem_of_getElem? hd)
        have lu := hx.length
        have lo : oddV.length = 11 := rfl
        have zi := hzd.same ei
        have hki := hk7.same (s8.trans ei)
        refine ⟨rfl, _, rfl, _, rfl, _, rfl, by show 3 ≤ sizeLine; rw [sizeLine_eq]; omega, fun L nL => ?_⟩
        have u1 := same_upd (o := .lst [vk, .str w, z]) nL
        refine ⟨_, rfl, 0, L, [vk, .str w, z], .word, z, d, rfl, upd_same, .rw (hki.same u1) (b := .w w) ⟨.w hw, by show 0 ≤ 20; omega⟩ (zi.same u1) (by rw [hasT_of zi]; exact o1) (by rw [hasT_of zi]; exact o2), zi.same u1, o3, fun H9 s9 => ?_⟩
        have eDv := s9 _ _ (u1 _ _ eDi)
        exact ⟨_, eDv, by rw [List.length_replicate, sizeLine_eq]; omega, same_over ((ei.trans u1).trans s9) hDb, by rw [upd_same, ← List.replicate_succ']⟩
      · rintro Hf ⟨ef, eDf⟩
        refine ⟨Db, List.replicate us.length true, rfl, SqL.of (by rw [eDf, List.map_replicate]), ?_⟩
        rw [rep_all]
        exact k Hf ((s57.trans s8).trans ef)
end
end Q4

namespace Q4
open PySem PySem.Spec PyProof.Rows L2 NdefX LamX KT
open PySem.W (Frag)
/-! ### expressions that make types -/
def Yk (t : TE) (σ : L2.St) (H0 : Hp) (ty : Ty) : Prop := ∀ H, Same H0 H → ∀ Q : VK, (∀ v H', Same H H' → TyAt H' v ty → Q v H') → t σ H Q
section
variable {σ : L2.St} {H0 : Hp} {a b : Ty} {ta tb : TE}
theorem yk_var {i : Nat} {v : V} (e : σ[i]? = some (some v)) (h : TyAt H0 v a) : Yk (tVar i) σ H0 a := fun H s Q q => ⟨v, e, q v H (Same.refl H) (h.mono (TK.of_same s))⟩
theorem yk_n (g : Sg) (h1 : Yk ta σ H0 a) (h2 : Yk tb σ H0 b) : Yk (tTup (tCons (tC (.str g.str)) (tCons ta (tCons tb tNil)))) σ H0 (.n g a b) := fun H s Q q =>
  h1 H s _ fun v1 H1 s1 t1 => h2 H1 (s.trans s1) _ fun v2 H2 s2 t2 => ⟨by show 3 ≤ sizeLine; rw [sizeLine_eq]; omega, fun p np => by
    have u := same_upd (o := .tup [.str g.str, v1, v2]) np
    exact q _ _ ((s1.trans s2).trans u) (.n upd_same (t1.mono (TK.of_same (s2.trans u))) (t2.mono (TK.of_same u)))⟩
/-- a type with a property, among some -/
def KP (p : Ty → Bool) (H : Hp) (v : V) : Prop := ∃ t, TyAt H v t ∧ p t = true
theorem KP.same {p : Ty → Bool} {H H' : Hp} {v : V} (s : Same H H') (h : KP p H v) : KP p H' v := h.elim fun t q => ⟨t, q.1.mono (TK.of_same s), q.2⟩
theorem yk_p {p : Ty → Bool} {t : TE} (h : Yk t σ H0 a) (e : p a = true) : Yp (KP p) t σ H0 := fun H s Q q => h H s Q fun v H' s' h' => q v H' s' ⟨a, h', e⟩
theorem yk_nil {p : Ty → Bool} : YpA (KP p) 0 tNil σ H0 := ypa_nil
theorem yk_cons {p : Ty → Bool} {n : Nat} {t : TE} {tr : TA} (h : Yk t σ H0 a) (e : p a = true) (hr : YpA (KP p) n tr σ H0) : YpA (KP p) (n + 1) (tCons t tr) σ H0 := ypa_cons (Pd := KP p) (fun s h => h.same s) (yk_p h e) hr
end
theorem ob_wf_ (t : Ty) : t.ob.wf = true := by
  induction t with
  | w z => simp [Ty.ob, O.wf]
  | n g a b i j => simp [Ty.ob, O.wf, owfAll, i, j]
theorem fineT_ty {t : Ty} (h : t.signs ≤ 10) : t.ob.fineT = true := by
  have d := t.ob_dep
  have e1 : decide (t.ob.dep ≤ 10) = true := decide_eq_true (by omega)
  unfold O.fineT
  rw [ob_wf_, e1]
  cases t <;> rfl
/-- what `refused` asks of a type that is given -/
theorem kp_ob {p : Ty → Bool} {H : Hp} {v : V} (h : KP p H v) : ∃ t, TyAt H v t ∧ p t = true ∧ OAt H v t.ob := h.elim fun t q => ⟨t, q.1, q.2, q.1.ob⟩
end Q4

namespace Q4
open PySem PySem.Spec PyProof.Rows L2 NdefX LamX KT
open PySem.W (Frag)
theorem asg_k {te : TE} {i : Nat} {u : TS} {D0 : L2.Ends} {σ : L2.St} {H : Hp} {t : Ty} (h : Yk te σ H t) (q : ∀ v H', Same H H' → TyAt H' v t → u D0 (σ.set i (some v)) H') : tSeq (tAsg te (gName i)) u D0 σ H := h H (Same.refl H) _ fun v H' s' hv => q v H' s' hv
/-- two types that do not meet -/
def PairP (H : Hp) (z : V) : Prop := ∃ (q : Addr) (v u : V) (s t : Ty), z = .ref q ∧ H q = some (.tup [v, u]) ∧ TyAt H v s ∧ TyAt H u t ∧ Ty.meets .ov s t = false ∧ Ty.meets .un s t = false ∧ s.signs ≤ 10 ∧ t.signs ≤ 10
theorem PairP.same {H H' : Hp} {z : V} (k : Same H H') (h : PairP H z) : PairP H' z := by
  obtain ⟨q, v, u, s, t, e, e1, h1, h2, m⟩ := h
  exact ⟨q, v, u, s, t, e, k _ _ e1, h1.mono (TK.of_same k), h2.mono (TK.of_same k), m⟩
theorem yp_pair {t1 t2 : TE} {σ : L2.St} {H0 : Hp} {s t : Ty} (h1 : Yk t1 σ H0 s) (h2 : Yk t2 σ H0 t) (m1 : Ty.meets .ov s t = false) (m2 : Ty.meets .un s t = false) (l1 : s.signs ≤ 10) (l2 : t.signs ≤ 10) : Yp PairP (tTup (tCons t1 (tCons t2 tNil))) σ H0 := fun H k Q q =>
  h1 H k _ fun v H1 k1 hv => h2 H1 (k.trans k1) _ fun u H2 k2 hu => ⟨by show 2 ≤ sizeLine; rw [sizeLine_eq]; omega, fun p np => by
    have u1 := same_upd (o := .tup [v, u]) np
    exact q _ _ ((k1.trans k2).trans u1) ⟨p, v, u, s, t, rfl, upd_same, hv.mono (TK.of_same (k2.trans u1)), hu.mono (TK.of_same u1), m1, m2, l1, l2⟩⟩
theorem fort_go {K : Frag} {t : TE} {gg : TG} {body u : TS} {D0 : L2.Ends} {σ : L2.St} {H : Hp} (h : t σ H fun x H1 => ∃ a, x = V.ref a ∧ (∃ xs : List V, SqT K H1 a xs) ∧ tSeq (tFor (fun _ H1 R => R (Itt K a) H1) gg body) u D0 σ H1) : tSeq (tFor (iTup K t) gg body) u D0 σ H := h
theorem tup_p {Pd : Hp → V → Prop} (st : ∀ {H H' v}, Same H H' → Pd H v → Pd H' v) {n : Nat} {ta : TA} {σ : L2.St} {H : Hp} {Q : VK} (y : YpA Pd n ta σ H) (l : n ≤ 100) (q : ∀ p vs H', Same H H' → H' p = some (.tup vs) → vs.length = n → (∀ v ∈ vs, Pd H' v) → Q (.ref p) H') : tTup ta σ H Q :=
  y H (Same.refl H) _ fun vs H1 s1 ln hv => ⟨by rw [ln, sizeLine_eq]; omega, fun p np => q p vs _ (s1.trans (same_upd np)) upd_same ln fun v m => st (same_upd np) (hv v m)⟩
theorem yc {Pd : Hp → V → Prop} (st : ∀ {H H' v}, Same H H' → Pd H v → Pd H' v) {n : Nat} {t : TE} {tr : TA} {σ : L2.St} {H0 : Hp} (h : Yp Pd t σ H0) (hr : YpA Pd n tr σ H0) : YpA Pd (n + 1) (tCons t tr) σ H0 := ypa_cons (Pd := Pd) st h hr
theorem th_ne (b : Ty) : decide (b = .n .th b b) = false := decide_eq_false fun e => by
  have := congrArg Ty.signs e
  simp only [Ty.signs] at this
  omega
/-- a list of types with a property -/
def Ykl (p : Ty → Bool) (n : Nat) (t : TE) (σ : L2.St) (H0 : Hp) : Prop := ∀ H, Same H0 H → ∀ Q : VK, (∀ L vs H', Same H H' → H' L = some (.lst vs) → vs.length = n → (∀ v ∈ vs, KP p H' v) → Q (.ref L) H') → t σ H Q
theorem ykl_lst {p : Ty → Bool} {n : Nat} {ta : TA} {σ : L2.St} {H0 : Hp} (y : YpA (KP p) n ta σ H0) (l : n ≤ 100) : Ykl p n (tLst ta) σ H0 := fun H s Q q =>
  y H s _ fun vs H1 s1 ln hv => ⟨by rw [ln, sizeLine_eq]; omega, fun L nL => q L vs _ (s1.trans (same_upd nL)) upd_same ln fun v m => (hv v m).same (same_upd nL)⟩
theorem ykl_var {p : Ty → Bool} {n i : Nat} {L : Addr} {vs : List V} {σ : L2.St} {H0 : Hp} (e : σ[i]? = some (some (.ref L))) (eL : H0 L = some (.lst vs)) (ln : vs.length = n) (hv : ∀ v ∈ vs, KP p H0 v) : Ykl p n (tVar i) σ H0 := fun H s Q q => ⟨_, e, q L vs H (Same.refl H) (s _ _ eL) ln fun v m => (hv v m).same s⟩
theorem ykl_cat {p : Ty → Bool} {n m : Nat} {t u : TE} {σ : L2.St} {H0 : Hp} (h : Ykl p n t σ H0) (h' : Ykl p m u σ H0) (l : n + m ≤ 100) : Ykl p (n + m) (tOp rCat t u) σ H0 := fun H s Q q =>
  h H s _ fun L vs H1 s1 e1 l1 d1 => h' H1 (s.trans s1) _ fun M us H2 s2 e2 l2 d2 => ⟨L, M, vs, us, rfl, rfl, s2 _ _ e1, e2, by rw [l1, l2, sizeLine_eq]; omega, fun p np => by
    have u1 := same_upd (o := .lst (vs ++ us)) np
    exact q p _ _ ((s1.trans s2).trans u1) upd_same (by rw [List.length_append, l1, l2]) fun v mv => by
      rcases List.mem_append.mp mv with mv | mv
      · exact (d1 v mv).same (s2.trans u1)
      · exact (d2 v mv).same u1⟩
theorem asg_kl {p : Ty → Bool} {n : Nat} {te : TE} {i : Nat} {u : TS} {D0 : L2.Ends} {σ : L2.St} {H : Hp} (h : Ykl p n te σ H) (q : ∀ L vs H', Same H H' → H' L = some (.lst vs) → vs.length = n → (∀ v ∈ vs, KP p H' v) → u D0 (σ.set i (some (.ref L))) H') : tSeq (tAsg te (gName i)) u D0 σ H := h H (Same.refl H) _ fun L vs H' s' e l hv => q L vs H' s' e l hv
def fallsP (f : Ty → Bool) (t : Ty) : Bool := !f t && decide (t.signs ≤ 10)
theorem fallsP_mk {f : Ty → Bool} {t : Ty} (e : f t = false) (l : t.signs ≤ 10) : fallsP f t = true := by unfold fallsP; rw [e, decide_eq_true l]; rfl
theorem fallsP_of {f : Ty → Bool} {t : Ty} (h : fallsP f t = true) : f t = false ∧ t.signs ≤ 10 := by
  unfold fallsP at h
  rw [Bool.and_eq_true] at h
  exact ⟨by simpa using h.1, of_decide_eq_true h.2⟩
section
variable {K : Frag}
def tAsks (j : Int) : TE := tCall spRaises [] E0 (tCons (tC (V.int j)) (tCons (tLst (tCons (tVar 6) tNil)) (tCons (tC (V.str (Str.ofString "refused"))) (tCons (tVar 6) tNil))))
theorem forl_go {K : Frag} {t : TE} {gg : TG} {body u : TS} {D0 : L2.Ends} {σ : L2.St} {H : Hp} (h : t σ H fun x H1 => ∃ a, x = V.ref a ∧ (∃ xs : List V, SqL K H1 a xs) ∧ tSeq (tFor (fun _ H1 R => R (Itl K a) H1) gg body) u D0 σ H1) : tSeq (tFor (iList K t) gg body) u D0 σ H := h
theorem retalll_go {K : Frag} {t : TE} {g : TG} {tt : TT} {te : TE} {vs : List Nat} {D0 : L2.Ends} {σ : L2.St} {H : Hp} (h : t σ H fun x H1 => ∃ a, x = .ref a ∧ (∃ xs, SqL K H1 a xs) ∧ tLc (fun _ H R => R (Itl K a) H) g tt te vs σ H1 fun y H2 => rAll K [y] H2 D0.rt) : tRet (tCB (rAll K) (tCons (tLc (iList K t) g tt te vs) tNil)) D0 σ H := h
theorem ask_go {j : Int} {v0 v1 v2 v3 v4 v5 v7 : Option V} {u : V} {f : Ty → Bool} {t : Ty} {H : Hp} {Q : VK} (h : TyAt H u t) (l : t.signs ≤ 10) (hb : ∀ {H'}, TyAt H' u t → Bad H' j [u] .refused u) (q : ∀ H', Same H H' → Q (.bl true) H') : tAsks j [v0, v1, v2, v3, v4, v5, some u, v7] H Q := by
  refine ⟨_, rfl, by show 1 ≤ sizeLine; rw [sizeLine_eq]; omega, fun L nL => ?_⟩
  have u1 := same_upd (o := .lst [u]) nL
  refine ⟨_, rfl, j, L, [u], .refused, u, t.ob, rfl, upd_same, (hb h).same u1, h.ob.same u1, fineT_ty l, fun H4 s4 => q _ (u1.trans s4)⟩
theorem floop {n : Nat} {j : Int} {f : Ty → Bool} {te : TE} {u : TS} {D0 : L2.Ends} {v0 v1 v2 v3 v4 v5 v6 v7 : Option V} {H : Hp} (y : Ykl (fallsP f) n te [v0, v1, v2, v3, v4, v5, v6, v7] H)
    (hb : ∀ {H' v t}, GoodK H' v t → f t = false → Bad H' j [v] .refused v) (k : ∀ v6 H', Same H H' → u D0 [v0, v1, v2, v3, v4, v5, v6, v7] H') :
    tSeq (tFor (iList K te) (gName 6) (tIfS (tNot (tB (tAsks j))) (tRet (tC (V.bl false))) tNext)) u D0 [v0, v1, v2, v3, v4, v5, v6, v7] H := by
  refine forl_go ?_
  refine y H (Same.refl H) _ fun L vs H1 s1 e1 l1 d1 => ⟨L, rfl, ⟨_, SqL.of e1⟩, ?_⟩
  refine for_list (K := K) (xs := vs) (fun i σ H' => ∃ v6, σ = [v0, v1, v2, v3, v4, v5, v6, v7] ∧ Same H1 H') ⟨_, rfl, Same.refl _⟩ (fun i σ H' _ ⟨_, _, q⟩ => SqL.of (q _ _ e1)) ?_ ?_
  · rintro i z σ H3 hz ⟨v6, rfl, e3⟩
    obtain ⟨t', h2, l2⟩ := (d1 z (List.mem_of_getElem? hz)).same e3
    obtain ⟨c1, c2⟩ := fallsP_of l2
    refine gN ?_
    refine ask_go (f := f) h2 c2 (fun h => hb ⟨h, by omega⟩ c1) fun H4 s4 => ⟨true, rfl, iteF ?_⟩
    exact ⟨_, rfl, e3.trans s4⟩
  · rintro σ H3 ⟨v6, rfl, e3⟩
    exact k _ _ (s1.trans e3)
theorem fall_all {n : Nat} {j : Int} {f : Ty → Bool} {te : TE} {D0 : L2.Ends} {v0 v1 v2 v3 v4 v5 v6 v7 : Option V} {H : Hp} (y : Ykl (fallsP f) n te [v0, v1, v2, v3, v4, v5, v6, v7] H) (ln : n ≤ 100)
    (hb : ∀ {H' v t}, GoodK H' v t → f t = false → Bad H' j [v] .refused v) (k : ∀ H', Same H H' → D0.rt (.bl true) H') :
    tRet (tCB (rAll K) (tCons (tLc (iList K te) (gName 6) tYes (tAsks j) [6]) tNil)) D0 [v0, v1, v2, v3, v4, v5, v6, v7] H := by
  refine retalll_go ?_
  refine y H (Same.refl H) _ fun L vs H1 s1 e1 l1 d1 => ⟨L, rfl, ⟨_, SqL.of e1⟩, fun Db hDb => ?_⟩
  refine lc_list (K := K) (xs := vs) (fun i H' => Same H1 H' ∧ H' Db = some (.lst (List.replicate i (.bl true)))) ⟨same_upd hDb, upd_same⟩ (fun i H' _ z => SqL.of (z.1 _ _ e1)) ?_ ?_
  · rintro i z Hi hz ⟨ei, eDi⟩
    have i5 : i < vs.length := (List.getElem?_eq_some_iff.mp hz).1
    obtain ⟨t', h2, l2⟩ := (d1 z (List.mem_of_getElem? hz)).same ei
    obtain ⟨c1, c2⟩ := fallsP_of l2
    refine ⟨rfl, ?_⟩
    refine ask_go (f := f) h2 c2 (fun h => hb ⟨h, by omega⟩ c1) fun H4 s4 => ?_
    have eDv := s4 _ _ eDi
    exact ⟨_, eDv, by rw [List.length_replicate, sizeLine_eq]; omega, same_over (ei.trans s4) hDb, by rw [upd_same, ← List.replicate_succ']⟩
  · rintro Hf ⟨ef, eDf⟩
    refine ⟨Db, List.replicate vs.length true, rfl, SqL.of (by rw [eDf, List.map_replicate]), ?_⟩
    rw [rep_all]
    exact k Hf (s1.trans ef)
theorem ifallt_go {ta : TA} {g : TG} {tt : TT} {te : TE} {vs : List Nat} {s u : TS} {D0 : L2.Ends} {σ : L2.St} {H : Hp} (h : tTup ta σ H fun x H1 => ∃ a, x = .ref a ∧ (∃ xs, SqT K H1 a xs) ∧ tLc (fun _ H R => R (Itt K a) H) g tt te vs σ H1 fun y H2 => tSeq (tIfS (tNot (tB (fun _ H Q => rAll K [y] H Q))) s tNext) u D0 σ H2) : tSeq (tIfS (tNot (tB (tCB (rAll K) (tCons (tLc (iTup K (tTup ta)) g tt te vs) tNil)))) s tNext) u D0 σ H := h
theorem nx_go {D0 : L2.Ends} {σ : L2.St} {H : Hp} (h : D0.nx σ H) : tNext D0 σ H := h
theorem cond_ev {σ : L2.St} {H : Hp} {Q : VK} {w : Str} {vb vo : V} {b : Ty} (e3 : σ[3]? = some (some (.str w))) (e1 : σ[1]? = some (some vb)) (e4 : σ[4]? = some (some vo)) (hw : IsW w) (hb : TyAt H vb b) (l : b.signs ≤ 2) (q : Q (if b = .w w then vo else .str w) H) : tIf (tTest (tOp (rNeD K) (tVar 3) (tVar 1))) (tVar 3) (tVar 4) σ H Q := by
  have db : b.d.dep ≤ 60 := by have := (ty_dep_small b).1; omega
  obtain ⟨A1, A2⟩ := ty_dp (K := K) (t := .w w) (TyAt.w (H := H) hw) (by simp [Ty.d, D.dep])
  obtain ⟨B1, B2⟩ := ty_dp (K := K) hb db
  refine ⟨_, e3, _, e1, _, _, A1, B1, A2, B2, ?_⟩
  rw [eqv_ty]
  by_cases c : b = .w w
  · rw [if_pos c] at q
    subst c
    rw [decide_eq_true rfl]
    exact ⟨false, rfl, iteF ⟨_, e4, q⟩⟩
  · rw [if_neg c] at q
    rw [decide_eq_false fun e => c e.symm]
    exact ⟨true, rfl, iteT ⟨_, e3, q⟩⟩
end
section
variable {P : Program} {w_ : World} {K : Frag} {mg : Str → Option Value} {base : Heap}
def spSFall : Sp := fun vs H Q _ => ∃ (va vb vc : V) (a b c : Ty) (w : Str), vs = [va, vb, vc, .str w] ∧ IsW w ∧ GoodK H va a ∧ GoodK H vb b ∧ GoodK H vc c ∧ a.signs ≤ 2 ∧ b.signs ≤ 2 ∧ c.signs ≤ 2 ∧ ∀ H', Same H H' → Q (.bl true) H'
theorem ok_sfall {f fR : Addr} {fd dR : FuncData} (T0 : Top K mg "_law_shapes_fall" sLShapesFall pLShapesFall f fd)
    (TR : Top K mg "_law_raises" sLRaises pLRaises fR dR) (GR : FnOk P w_ K mg base CX0 15 fR dR pLRaises spRaises) (B : Blt mg) : FnOk P w_ K mg base CX0 16 f fd pLShapesFall spSFall := by
  refine T0.F.ok scLShapesFall (fun vs H Q E h => ?_) (fun cdv A outer s H vs Q E hr h => ?_)
  · obtain ⟨_, _, _, _, _, _, _, rfl, _⟩ := h
    rfl
  · obtain ⟨va, vb, vc, a, b, c, w, rfl, hw, ha, hb, hc, la, lb, lc, k⟩ := h
    refine ⟨_, (pss_cons (ps_set (i := 4) scLShapesFall.nd rfl (Or.inl rfl) (pe_tup (pa_cons pe_str (pa_cons (pv 1) (pa_cons (pv 1) pa_nil)))))
      (pss_cons (ps_for PassesOwn.never rfl (pi_tup (pe_tup (pa_cons (pe_tup (pa_cons (pe_tup (pa_cons pe_str (pa_cons (pv 0) (pa_cons (pv 1) pa_nil)))) (pa_cons (pe_tup (pa_cons pe_str (pa_cons (pv 4) (pa_cons (pv 2) pa_nil)))) pa_nil))) (pa_cons (pe_tup (pa_cons (pe_tup (pa_cons pe_str (pa_cons (pv 2) (pa_cons (pv 1) pa_nil)))) (pa_cons (pe_tup (pa_cons pe_str (pa_cons (pv 4) (pa_cons (pv 0) pa_nil)))) pa_nil))) (pa_cons (pe_tup (pa_cons (pe_tup (pa_cons pe_str (pa_cons (pv 0) (pa_cons (pv 1) pa_nil)))) (pa_cons (pe_tup (pa_cons pe_str (pa_cons (pv 1) (pa_cons (pv 0) pa_nil)))) pa_nil))) (pa_cons (pe_tup (pa_cons (pe_tup (pa_cons pe_str (pa_cons (pv 0) (pa_cons (pv 1) pa_nil)))) (pa_cons (pe_tup (pa_cons pe_str (pa_cons (pv 1) (pa_cons (pv 2) pa_nil)))) pa_nil))) pa_nil)))))) (pg_tup (by rfl) (pgs_cons (pg_name (i := 5) scLShapesFall.nd rfl (Or.inl rfl)) (pgs_cons (pg_name (i := 6) scLShapesFall.nd rfl (Or.inl rfl)) pgs_nil)))
      (pss_one (ps_if (pt_not (pt_val (pe_call GR hr rfl TR.g TR.F.kp TR.b .nil pass0 (pa_cons pe_int (pa_cons (pe_lst (pa_cons (pv 5) (pa_cons (pv 6) pa_nil))) (pa_cons pe_str (pa_cons (pv 6) pa_nil))))))) (pss_one (ps_ret pe_bl)) pss_nil)))
      (pss_cons (ps_for PassesOwn.never rfl (pi_tup (pe_tup (pa_cons (pv 3) (pa_cons (pv 4) (pa_cons (pe_tup (pa_cons pe_str (pa_cons (pv 1) (pa_cons (pv 0) pa_nil)))) (pa_cons (pe_tup (pa_cons pe_str (pa_cons (pv 1) (pa_cons (pv 0) pa_nil)))) pa_nil)))))) (pg_name (i := 6) scLShapesFall.nd rfl (Or.inl rfl))
      (pss_one (ps_if (PW.pt (pw_or (pt_not (pt_val (pe_call GR hr rfl TR.g TR.F.kp TR.b .nil pass0 (pa_cons pe_int (pa_cons (pe_lst (pa_cons (pv 3) (pa_cons (pv 6) pa_nil))) (pa_cons pe_str (pa_cons (pv 6) pa_nil))))))) (pw_or1 (pt_not (pt_val (pe_call GR hr rfl TR.g TR.F.kp TR.b .nil pass0 (pa_cons pe_int (pa_cons (pe_lst (pa_cons (pv 4) (pa_cons (pv 6) pa_nil))) (pa_cons pe_str (pa_cons (pv 6) pa_nil)))))))))) (pss_one (ps_ret pe_bl)) pss_nil)))
      (pss_cons (ps_if (pt_not (pt_val (pe_call GR hr rfl TR.g TR.F.kp TR.b .nil pass0 (pa_cons pe_int (pa_cons (pe_lst (pa_cons (pe_tup (pa_cons pe_str (pa_cons (pv 0) (pa_cons (pv 1) pa_nil)))) (pa_cons (pe_ifExp (pt_cmpR (op_neD (hu64 hr)) (pv 3) (pv 1) (nomark _)) (pv 3) (pv 4)) pa_nil))) (pa_cons pe_str (pa_cons (pe_ifExp (pt_cmpR (op_neD (hu64 hr)) (pv 3) (pv 1) (nomark _)) (pv 3) (pv 4)) pa_nil))))))) (pss_one (ps_ret pe_bl)) pss_nil)
      (pss_cons (ps_if (pt_not (pt_val (pe_callB (cr_all rfl) (by rfl) B.all (by decide +kernel) (pa_cons (pe_lc (own := [("late", 6)]) (g := (gName 6)) (tt := tYes) rfl scLShapesFall.nd (pi_tup (pe_tup (pa_cons (pv 3) (pa_cons (pe_tup (pa_cons pe_str (pa_cons (pv 0) (pa_cons (pv 1) pa_nil)))) pa_nil)))) (blkOk_by (N := nLShapesFall) (sc := defScope sLShapesFall) (by decide +kernel)) (fun _ _ _ _ _ => pg_name (i := 6) scLShapesFall.nd rfl (Or.inl rfl)) (fun _ _ _ _ _ => pts_nil) (fun _ _ _ _ _ => (pe_call GR hr rfl TR.g TR.F.kp TR.b .nil pass0 (pa_cons pe_int (pa_cons (pe_lst (pa_cons (pv 6) (pa_cons (pv 2) pa_nil))) (pa_cons pe_str (pa_cons (pv 6) pa_nil))))))) pa_nil)))) (pss_one (ps_ret pe_bl)) pss_nil)
      (pss_cons (ps_set (i := 7) scLShapesFall.nd rfl (Or.inl rfl) (pe_lst (pa_cons (pv 3) (pa_cons (pe_tup (pa_cons pe_str (pa_cons (pe_tup (pa_cons pe_str (pa_cons (pv 1) (pa_cons (pv 0) pa_nil)))) (pa_cons (pv 2) pa_nil)))) (pa_cons (pe_tup (pa_cons pe_str (pa_cons (pv 3) (pa_cons (pv 2) pa_nil)))) (pa_cons (pe_tup (pa_cons pe_str (pa_cons (pv 1) (pa_cons (pv 3) pa_nil)))) (pa_cons (pe_tup (pa_cons pe_str (pa_cons (pe_tup (pa_cons pe_str (pa_cons (pv 0) (pa_cons (pv 1) pa_nil)))) (pa_cons (pv 2) pa_nil)))) (pa_cons (pe_tup (pa_cons pe_str (pa_cons (pv 1) (pa_cons (pe_tup (pa_cons pe_str (pa_cons (pv 0) (pa_cons (pv 2) pa_nil)))) pa_nil)))) pa_nil))))))))
      (pss_cons (ps_for PassesOwn.never rfl (pi_list (pe_op op_cat (pv 7) (pe_lst (pa_cons (pe_tup (pa_cons pe_str (pa_cons (pe_tup (pa_cons pe_str (pa_cons (pv 1) (pa_cons (pv 0) pa_nil)))) (pa_cons (pv 2) pa_nil)))) pa_nil)))) (pg_name (i := 6) scLShapesFall.nd rfl (Or.inl rfl))
      (pss_one (ps_if (pt_not (pt_val (pe_call GR hr rfl TR.g TR.F.kp TR.b .nil pass0 (pa_cons pe_int (pa_cons (pe_lst (pa_cons (pv 6) pa_nil)) (pa_cons pe_str (pa_cons (pv 6) pa_nil))))))) (pss_one (ps_ret pe_bl)) pss_nil)))
      (pss_cons (ps_set (i := 7) scLShapesFall.nd rfl (Or.inl rfl) (pe_lst (pa_cons (pv 3) (pa_cons (pe_tup (pa_cons pe_str (pa_cons (pv 1) (pa_cons (pv 2) pa_nil)))) (pa_cons (pe_tup (pa_cons pe_str (pa_cons (pv 0) (pa_cons (pv 3) pa_nil)))) (pa_cons (pe_tup (pa_cons pe_str (pa_cons (pv 3) (pa_cons (pv 0) pa_nil)))) (pa_cons (pe_tup (pa_cons pe_str (pa_cons (pv 0) (pa_cons (pe_tup (pa_cons pe_str (pa_cons (pv 1) (pa_cons (pv 2) pa_nil)))) pa_nil)))) (pa_cons (pe_tup (pa_cons pe_str (pa_cons (pe_tup (pa_cons pe_str (pa_cons (pv 1) (pa_cons (pv 2) pa_nil)))) (pa_cons (pv 0) pa_nil)))) pa_nil))))))))
      (pss_cons (ps_for PassesOwn.never rfl (pi_list (pe_op op_cat (pv 7) (pe_lst (pa_cons (pe_tup (pa_cons pe_str (pa_cons (pe_tup (pa_cons pe_str (pa_cons (pv 1) (pa_cons (pv 2) pa_nil)))) (pa_cons (pv 3) pa_nil)))) (pa_cons (pe_tup (pa_cons pe_str (pa_cons (pv 3) (pa_cons (pe_tup (pa_cons pe_str (pa_cons (pv 1) (pa_cons (pv 2) pa_nil)))) pa_nil)))) pa_nil))))) (pg_name (i := 6) scLShapesFall.nd rfl (Or.inl rfl))
      (pss_one (ps_if (pt_not (pt_val (pe_call GR hr rfl TR.g TR.F.kp TR.b .nil pass0 (pa_cons pe_int (pa_cons (pe_lst (pa_cons (pv 6) pa_nil)) (pa_cons pe_str (pa_cons (pv 6) pa_nil))))))) (pss_one (ps_ret pe_bl)) pss_nil)))
      (pss_cons (ps_set (i := 7) scLShapesFall.nd rfl (Or.inl rfl) (pe_lst (pa_cons (pv 3) (pa_cons (pe_tup (pa_cons pe_str (pa_cons (pe_tup (pa_cons pe_str (pa_cons (pv 0) (pa_cons (pv 2) pa_nil)))) (pa_cons (pv 1) pa_nil)))) (pa_cons (pe_tup (pa_cons pe_str (pa_cons (pv 3) (pa_cons (pv 1) pa_nil)))) (pa_cons (pe_tup (pa_cons pe_str (pa_cons (pv 2) (pa_cons (pv 3) pa_nil)))) (pa_cons (pe_tup (pa_cons pe_str (pa_cons (pe_tup (pa_cons pe_str (pa_cons (pv 2) (pa_cons (pv 0) pa_nil)))) (pa_cons (pv 1) pa_nil)))) (pa_cons (pe_tup (pa_cons pe_str (pa_cons (pv 2) (pa_cons (pe_tup (pa_cons pe_str (pa_cons (pv 0) (pa_cons (pv 1) pa_nil)))) pa_nil)))) pa_nil))))))))
      (pss_one (ps_ret (pe_callB (cr_all rfl) (by rfl) B.all (by decide +kernel) (pa_cons (pe_lc (own := [("late", 6)]) (g := (gName 6)) (tt := tYes) rfl scLShapesFall.nd (pi_list (pe_op op_cat (pv 7) (pe_lst (pa_cons (pe_tup (pa_cons pe_str (pa_cons (pe_tup (pa_cons pe_str (pa_cons (pv 0) (pa_cons (pv 2) pa_nil)))) (pa_cons (pv 1) pa_nil)))) (pa_cons (pe_tup (pa_cons pe_str (pa_cons (pe_tup (pa_cons pe_str (pa_cons (pv 1) (pa_cons (pv 0) pa_nil)))) (pa_cons (pv 3) pa_nil)))) pa_nil))))) (blkOk_by (N := nLShapesFall) (sc := defScope sLShapesFall) (by decide +kernel)) (fun _ _ _ _ _ => pg_name (i := 6) scLShapesFall.nd rfl (Or.inl rfl)) (fun _ _ _ _ _ => pts_nil) (fun _ _ _ _ _ => (pe_call GR hr rfl TR.g TR.F.kp TR.b .nil pass0 (pa_cons pe_int (pa_cons (pe_lst (pa_cons (pv 6) pa_nil)) (pa_cons pe_str (pa_cons (pv 6) pa_nil))))))) pa_nil)))))))))))))), ?_⟩
    refine asg_k (t := .n .th b b) (yk_n .th (yk_var rfl hb.a) (yk_var rfl hb.a)) fun vo H1 s1 ho => ?_
    have ha1 := ha.same s1
    have hb1 := hb.same s1
    have hc1 := hc.same s1
    dsimp only
    refine fort_go ?_
    refine tup_p (Pd := PairP) (fun s h => h.same s) (yc (Pd := PairP) (fun s h => h.same s) (yp_pair (yk_n .ov (yk_var rfl ha1.a) (yk_var rfl hb1.a)) (yk_n .ov (yk_var rfl ho) (yk_var rfl hc1.a)) (by simp [Ty.meets, th_ne]) rfl (by simp only [Ty.signs]; omega) (by simp only [Ty.signs]; omega))
      (yc (Pd := PairP) (fun s h => h.same s) (yp_pair (yk_n .un (yk_var rfl hc1.a) (yk_var rfl hb1.a)) (yk_n .un (yk_var rfl ho) (yk_var rfl ha1.a)) rfl (by simp [Ty.meets, th_ne]) (by simp only [Ty.signs]; omega) (by simp only [Ty.signs]; omega))
      (yc (Pd := PairP) (fun s h => h.same s) (yp_pair (yk_n .ov (yk_var rfl ha1.a) (yk_var rfl hb1.a)) (yk_n .un (yk_var rfl hb1.a) (yk_var rfl ha1.a)) rfl rfl (by simp only [Ty.signs]; omega) (by simp only [Ty.signs]; omega))
      (yc (Pd := PairP) (fun s h => h.same s) (yp_pair (yk_n .un (yk_var rfl ha1.a) (yk_var rfl hb1.a)) (yk_n .ov (yk_var rfl hb1.a) (yk_var rfl hc1.a)) rfl rfl (by simp only [Ty.signs]; omega) (by simp only [Ty.signs]; omega)) ypa_nil)))) (Nat.le_of_ble_eq_true rfl) fun p ps H2 s2 ep lp hp => ⟨p, rfl, ⟨_, SqT.of ep⟩, ?_⟩
    refine for_tup (K := K) (xs := ps) (fun i σ H' => ∃ v5 v6 v7, σ = [some va, some vb, some vc, some (.str w), some vo, v5, v6, v7] ∧ Same H2 H') ⟨_, _, _, rfl, Same.refl _⟩ (fun i σ H' _ ⟨_, _, _, _, q⟩ => SqT.of (q _ _ ep)) ?_ ?_
    · rintro i z σ H3 hz ⟨v5, v6, v7, rfl, e3⟩
      obtain ⟨q, v, u, s', t', rfl, e1, h1, h2, m1, m2, l1, l2⟩ := (hp z (List.mem_of_getElem? hz)).same e3
      refine ⟨q, _, rfl, SqT.of e1, rfl, _, _, rfl, _, _, rfl, rfl, ?_⟩
      dsimp only
      refine ⟨_, rfl, _, rfl, by show 2 ≤ sizeLine; rw [sizeLine_eq]; omega, fun L nL => ?_⟩
      have u1 := same_upd (o := .lst [v, u]) nL
      refine ⟨_, rfl, 1, L, [v, u], .refused, u, t'.ob, rfl, upd_same, (Bad.cr (a := s') (b := t') ⟨h1, by omega⟩ ⟨h2, by omega⟩ m1 m2).same u1, h2.ob.same u1, fineT_ty l2, fun H4 s4 => ⟨true, rfl, iteF ?_⟩⟩
      exact ⟨_, _, _, rfl, e3.trans (u1.trans s4)⟩
    · rintro σ H3 ⟨v5, v6, v7, rfl, e3⟩
      have s13 := s2.trans e3
      have ha3 := ha1.same s13
      have hb3 := hb1.same s13
      have hc3 := hc1.same s13
      have ho3 := ho.mono (TK.of_same s13)
      have hw3 : TyAt H3 (.str w) (.w w) := .w hw
      clear ep hp lp
      dsimp only
      refine fort_go ?_
      refine tup_p (Pd := KP fun t => decide (t.signs ≤ 10)) (fun s h => h.same s) (yk_cons (yk_var rfl hw3) rfl (yk_cons (yk_var rfl ho3) (decide_eq_true (by simp only [Ty.signs]; omega)) (yk_cons (yk_n .ov (yk_var rfl hb3.a) (yk_var rfl ha3.a)) (decide_eq_true (by simp only [Ty.signs]; omega)) (yk_cons (yk_n .un (yk_var rfl hb3.a) (yk_var rfl ha3.a)) (decide_eq_true (by simp only [Ty.signs]; omega)) yk_nil)))) (Nat.le_of_ble_eq_true rfl) fun p4 ps4 H4 s4 ep4 lp4 hp4 => ⟨p4, rfl, ⟨_, SqT.of ep4⟩, ?_⟩
      refine for_tup (K := K) (xs := ps4) (fun i σ H' => ∃ v5 v6 v7, σ = [some va, some vb, some vc, some (.str w), some vo, v5, v6, v7] ∧ Same H4 H') ⟨_, _, _, rfl, Same.refl _⟩ (fun i σ H' _ ⟨_, _, _, _, q⟩ => SqT.of (q _ _ ep4)) ?_ ?_
      · rintro i u σ H5 hz ⟨v5, v6, v7, rfl, e5⟩
        obtain ⟨t', h2, l2⟩ := (hp4 u (List.mem_of_getElem? hz)).same e5
        have l2 := of_decide_eq_true l2
        have ho5 := ho3.mono (TK.of_same (s4.trans e5))
        refine gN ?_
        refine ⟨_, rfl, _, rfl, by show 2 ≤ sizeLine; rw [sizeLine_eq]; omega, fun L nL => ?_⟩
        have u1 := same_upd (o := .lst [.str w, u]) nL
        refine ⟨_, rfl, 1, L, [.str w, u], .refused, u, t'.ob, rfl, upd_same, (Bad.cr (a := .w w) (b := t') ⟨.w hw, by show 0 ≤ 20; omega⟩ ⟨h2, by omega⟩ rfl rfl).same u1, h2.ob.same u1, fineT_ty l2, fun H6 s6 => ?_⟩
        have s56 := u1.trans s6
        refine ⟨true, rfl, iteF ?_⟩
        refine ⟨_, rfl, _, rfl, by show 2 ≤ sizeLine; rw [sizeLine_eq]; omega, fun L2 nL2 => ?_⟩
        have u2 := same_upd (o := .lst [vo, u]) nL2
        have h26 := h2.mono (TK.of_same s56)
        refine ⟨_, rfl, 1, L2, [vo, u], .refused, u, t'.ob, rfl, upd_same, (Bad.cr (a := .n .th b b) (b := t') ⟨ho5.mono (TK.of_same s56), by simp only [Ty.signs]; omega⟩ ⟨h26, by omega⟩ (by cases t' <;> rfl) (by cases t' <;> rfl)).same u2, h26.ob.same u2, fineT_ty l2, fun H7 s7 => ⟨true, rfl, iteF ?_⟩⟩
        exact ⟨_, _, _, rfl, e5.trans (s56.trans (u2.trans s7))⟩
      · rintro σ H5 ⟨v5, v6, v7, rfl, e5⟩
        have s35 := s4.trans e5
        have ha5 := ha3.same s35
        have hb5 := hb3.same s35
        have hc5 := hc3.same s35
        have ho5 := ho3.mono (TK.of_same s35)
        have hw5 : TyAt H5 (.str w) (.w w) := .w hw
        clear ep4 hp4 lp4
        obtain ⟨g, hg⟩ : ∃ t : Ty, t = if b = .w w then .n .th b b else .w w := ⟨_, rfl⟩
        obtain ⟨vg, hvg⟩ : ∃ v : V, v = if b = .w w then vo else .str w := ⟨_, rfl⟩
        have hgl : g.signs ≤ 10 := by rw [hg]; split <;> simp only [Ty.signs] <;> omega
        have hgm : ∀ s, Ty.meets .ov s g = false ∧ Ty.meets .un s g = false := by
          intro s
          rw [hg]
          split <;> cases s <;> simp [Ty.meets]
        have hgt : ∀ {G}, Same H5 G → TyAt G vg g := by
          intro G sG
          rw [hg, hvg]
          split
          · exact ho5.mono (TK.of_same sG)
          · exact .w hw
        dsimp only
        refine ⟨_, rfl, _, rfl, by show 3 ≤ sizeLine; rw [sizeLine_eq]; omega, fun p1 n1 => ?_⟩
        have s6 := same_upd (o := .tup [.str "over", va, vb]) n1
        have h1 : TyAt (upd H5 p1 (.tup [.str "over", va, vb])) (.ref p1) (.n .ov a b) := .n upd_same (ha5.a.mono (TK.of_same s6)) (hb5.a.mono (TK.of_same s6))
        generalize upd H5 p1 _ = H6 at s6 h1 ⊢
        show tIf (tTest (tOp (rNeD _) (tVar 3) (tVar 1))) (tVar 3) (tVar 4) [some va, some vb, some vc, some (.str w), some vo, v5, v6, v7] H6 _
        refine cond_ev (σ := [some va, some vb, some vc, some (.str w), some vo, v5, v6, v7]) (vb := vb) (vo := vo) rfl rfl rfl hw (hb5.same s6).a lb ?_
        rw [← hvg]
        refine ⟨by show 2 ≤ sizeLine; rw [sizeLine_eq]; omega, fun L nL => ?_⟩
        have u1 := same_upd (o := .lst [.ref p1, vg]) nL
        show tIf (tTest (tOp (rNeD _) (tVar 3) (tVar 1))) (tVar 3) (tVar 4) [some va, some vb, some vc, some (.str w), some vo, v5, v6, v7] _ _
        refine cond_ev (σ := [some va, some vb, some vc, some (.str w), some vo, v5, v6, v7]) (vb := vb) (vo := vo) rfl rfl rfl hw (hb5.same (s6.trans u1)).a lb ?_
        rw [← hvg]
        refine ⟨1, L, [.ref p1, vg], .refused, vg, g.ob, rfl, upd_same, (Bad.cr (a := .n .ov a b) (b := g) ⟨h1.mono (TK.of_same u1), by simp only [Ty.signs]; omega⟩ ⟨hgt (s6.trans u1), by omega⟩ (hgm _).1 (hgm _).2), (hgt (s6.trans u1)).ob, fineT_ty hgl, fun H7 s7 => ⟨true, rfl, iteF ?_⟩⟩
        have s57 := (s6.trans u1).trans s7
        have ha7 := ha5.same s57
        have hb7 := hb5.same s57
        have hc7 := hc5.same s57
        have hw7 : TyAt H7 (.str w) (.w w) := .w hw
        clear h1
        have ho7 := ho5.mono (TK.of_same s57)
        refine nx_go ?_
        dsimp only
        refine ifallt_go ?_
        refine tup_p (Pd := KP (fallsP fun t => t.hasSg .ov || t.hasSg .un)) (fun s h => h.same s) (yk_cons (yk_var rfl hw7) (fallsP_mk rfl (by simp only [Ty.signs]; omega)) (yk_cons (yk_n .th (yk_var rfl ha7.a) (yk_var rfl hb7.a)) (fallsP_mk rfl (by simp only [Ty.signs]; omega)) yk_nil)) (Nat.le_of_ble_eq_true rfl) fun pT us H8 s8 eT lT hT => ?_
        refine ⟨pT, rfl, ⟨_, SqT.of eT⟩, fun Db hDb => ?_⟩
        refine lc_tup (K := K) (xs := us) (fun i H' => Same H8 H' ∧ H' Db = some (.lst (List.replicate i (.bl true)))) ⟨same_upd hDb, upd_same⟩ (fun i H' _ z => SqT.of (z.1 _ _ eT)) ?_ ?_
        · rintro i z Hi hz ⟨ei, eDi⟩
          have i5 : i < us.length := (List.getElem?_eq_some_iff.mp hz).1
          obtain ⟨t', h2, l2⟩ := (hT z (List.mem_of_getElem? hz)).same ei
          obtain ⟨l2, l1⟩ := fallsP_of l2
          obtain ⟨m1, m2⟩ := Bool.or_eq_false_iff.mp l2
          have hci := hc7.same (s8.trans ei)
          refine ⟨rfl, ?_⟩
          refine ⟨_, rfl, _, rfl, by show 2 ≤ sizeLine; rw [sizeLine_eq]; omega, fun L nL => ?_⟩
          have u1 := same_upd (o := .lst [z, vc]) nL
          refine ⟨_, rfl, 2, L, [z, vc], .refused, z, t'.ob, rfl, upd_same, (Bad.dr (a := t') (b := c) ⟨h2, by omega⟩ hci m1 m2).same u1, h2.ob.same u1, fineT_ty l1, fun H9 s9 => ?_⟩
          have eDv := s9 _ _ (u1 _ _ eDi)
          exact ⟨_, eDv, by rw [List.length_replicate, sizeLine_eq]; omega, same_over ((ei.trans u1).trans s9) hDb, by rw [upd_same, ← List.replicate_succ']⟩
        · rintro Hf ⟨ef, eDf⟩
          refine ⟨Db, List.replicate us.length true, rfl, SqL.of (by rw [eDf, List.map_replicate]), true, congrArg V.bl (rep_all _), iteF ?_⟩
          have s7f := s8.trans ef
          have ha8 := ha7.same s7f
          have hb8 := hb7.same s7f
          have hc8 := hc7.same s7f
          have hw8 : TyAt Hf (.str w) (.w w) := .w hw
          have kf : ∀ H', Same Hf H' → Q (.bl true) H' := fun H' q => k H' (s1.trans (s2.trans (e3.trans (s4.trans (e5.trans (s57.trans (s7f.trans q)))))))
          clear hT eT lT eDf ef
          refine nx_go ?_
          dsimp only
          refine asg_kl (p := fallsP Ty.swaps) (n := 6) (ykl_lst ((yk_cons (yk_var rfl hw8) (fallsP_mk rfl (by simp only [Ty.signs]; omega)) (yk_cons (yk_n .th (yk_n .un (yk_var rfl hb8.a) (yk_var rfl ha8.a)) (yk_var rfl hc8.a)) (fallsP_mk rfl (by simp only [Ty.signs]; omega)) (yk_cons (yk_n .ov (yk_var rfl hw8) (yk_var rfl hc8.a)) (fallsP_mk rfl (by simp only [Ty.signs]; omega)) (yk_cons (yk_n .un (yk_var rfl hb8.a) (yk_var rfl hw8)) (fallsP_mk rfl (by simp only [Ty.signs]; omega)) (yk_cons (yk_n .ov (yk_n .ov (yk_var rfl ha8.a) (yk_var rfl hb8.a)) (yk_var rfl hc8.a)) (fallsP_mk rfl (by simp only [Ty.signs]; omega)) (yk_cons (yk_n .un (yk_var rfl hb8.a) (yk_n .un (yk_var rfl ha8.a) (yk_var rfl hc8.a))) (fallsP_mk rfl (by simp only [Ty.signs]; omega)) yk_nil))))))) (Nat.le_of_ble_eq_true rfl)) fun L1 w1 G1 g1 q1 y1 z1 => ?_
          have ha9 := ha8.same g1
          have hb9 := hb8.same g1
          have hc9 := hc8.same g1
          have hw9 : TyAt G1 (.str w) (.w w) := .w hw
          refine floop (K := K) (f := Ty.swaps) (ykl_cat (n := 6) (m := 1) (ykl_var rfl q1 y1 z1) (ykl_lst ((yk_cons (yk_n .ov (yk_n .th (yk_var rfl hb9.a) (yk_var rfl ha9.a)) (yk_var rfl hc9.a)) (fallsP_mk rfl (by simp only [Ty.signs]; omega)) yk_nil)) (Nat.le_of_ble_eq_true rfl)) (Nat.le_of_ble_eq_true rfl)) (fun h e => .sr h e) fun v6' G2 g2 => ?_
          have haA := ha9.same g2
          have hbA := hb9.same g2
          have hcA := hc9.same g2
          have hwA : TyAt G2 (.str w) (.w w) := .w hw
          clear z1
          refine asg_kl (p := fallsP Ty.bound) (n := 6) (ykl_lst ((yk_cons (yk_var rfl hwA) (fallsP_mk rfl (by simp only [Ty.signs]; omega)) (yk_cons (yk_n .th (yk_var rfl hbA.a) (yk_var rfl hcA.a)) (fallsP_mk rfl (by simp only [Ty.signs]; omega)) (yk_cons (yk_n .ov (yk_var rfl haA.a) (yk_var rfl hwA)) (fallsP_mk rfl (by simp only [Ty.signs]; omega)) (yk_cons (yk_n .un (yk_var rfl hwA) (yk_var rfl haA.a)) (fallsP_mk rfl (by simp only [Ty.signs]; omega)) (yk_cons (yk_n .ov (yk_var rfl haA.a) (yk_n .ov (yk_var rfl hbA.a) (yk_var rfl hcA.a))) (fallsP_mk rfl (by simp only [Ty.signs]; omega)) (yk_cons (yk_n .un (yk_n .un (yk_var rfl hbA.a) (yk_var rfl hcA.a)) (yk_var rfl haA.a)) (fallsP_mk rfl (by simp only [Ty.signs]; omega)) yk_nil))))))) (Nat.le_of_ble_eq_true rfl)) fun L2 w2 G3 g3 q3 y3 z3 => ?_
          have haB := haA.same g3
          have hbB := hbA.same g3
          have hcB := hcA.same g3
          have hwB : TyAt G3 (.str w) (.w w) := .w hw
          refine floop (K := K) (f := Ty.bound) (ykl_cat (n := 6) (m := 2) (ykl_var rfl q3 y3 z3) (ykl_lst ((yk_cons (yk_n .ov (yk_n .th (yk_var rfl hbB.a) (yk_var rfl hcB.a)) (yk_var rfl hwB)) (fallsP_mk rfl (by simp only [Ty.signs]; omega)) (yk_cons (yk_n .un (yk_var rfl hwB) (yk_n .th (yk_var rfl hbB.a) (yk_var rfl hcB.a))) (fallsP_mk rfl (by simp only [Ty.signs]; omega)) yk_nil))) (Nat.le_of_ble_eq_true rfl)) (Nat.le_of_ble_eq_true rfl)) (fun h e => .pr h e) fun v6' G4 g4 => ?_
          have haC := haB.same g4
          have hbC := hbB.same g4
          have hcC := hcB.same g4
          have hwC : TyAt G4 (.str w) (.w w) := .w hw
          clear z3
          refine asg_kl (p := fallsP Ty.packs) (n := 6) (ykl_lst ((yk_cons (yk_var rfl hwC) (fallsP_mk rfl (by simp only [Ty.signs]; omega)) (yk_cons (yk_n .th (yk_n .ov (yk_var rfl haC.a) (yk_var rfl hcC.a)) (yk_var rfl hbC.a)) (fallsP_mk rfl (by simp only [Ty.signs]; omega)) (yk_cons (yk_n .ov (yk_var rfl hwC) (yk_var rfl hbC.a)) (fallsP_mk rfl (by simp only [Ty.signs]; omega)) (yk_cons (yk_n .un (yk_var rfl hcC.a) (yk_var rfl hwC)) (fallsP_mk rfl (by simp only [Ty.signs]; omega)) (yk_cons (yk_n .ov (yk_n .un (yk_var rfl hcC.a) (yk_var rfl haC.a)) (yk_var rfl hbC.a)) (fallsP_mk rfl (by simp only [Ty.signs]; omega)) (yk_cons (yk_n .un (yk_var rfl hcC.a) (yk_n .ov (yk_var rfl haC.a) (yk_var rfl hbC.a))) (fallsP_mk rfl (by simp only [Ty.signs]; omega)) yk_nil))))))) (Nat.le_of_ble_eq_true rfl)) fun L3 w3 G5 g5 q5 y5 z5 => ?_
          have haD := haC.same g5
          have hbD := hbC.same g5
          have hcD := hcC.same g5
          have hwD : TyAt G5 (.str w) (.w w) := .w hw
          refine fall_all (K := K) (f := Ty.packs) (ykl_cat (n := 6) (m := 2) (ykl_var rfl q5 y5 z5) (ykl_lst ((yk_cons (yk_n .ov (yk_n .th (yk_var rfl haD.a) (yk_var rfl hcD.a)) (yk_var rfl hbD.a)) (fallsP_mk rfl (by simp only [Ty.signs]; omega)) (yk_cons (yk_n .un (yk_n .un (yk_var rfl hbD.a) (yk_var rfl haD.a)) (yk_var rfl hwD)) (fallsP_mk rfl (by simp only [Ty.signs]; omega)) yk_nil))) (Nat.le_of_ble_eq_true rfl)) (Nat.le_of_ble_eq_true rfl)) (Nat.le_of_ble_eq_true rfl) (fun h e => .kr h e) fun G6 g6 => ?_
          exact kf G6 (g1.trans (g2.trans (g3.trans (g4.trans (g5.trans g6)))))
end
end Q4

namespace Q4
open PySem PySem.Spec PyProof.Rows L2 LamX KT
open PySem.W (Frag)
def sw2 {α : Type} : List α → List α
  | [a, b] => [b, a]
  | _ => []
def sw3 {α : Type} : List α → List α
  | [a, b, c] => [c, b, a]
  | _ => []
theorem sw2_vals {zs : List V} {ws : List Value} (h : Vals zs ws) : Vals (sw2 zs) (sw2 ws) := by
  match zs, ws, h with
  | _, _, .nil => exact .nil
  | _, _, .cons a .nil => exact .nil
  | _, _, .cons a (.cons b .nil) => exact .cons b (.cons a .nil)
  | _, _, .cons a (.cons b (.cons c h)) => exact .nil
theorem sw3_vals {zs : List V} {ws : List Value} (h : Vals zs ws) : Vals (sw3 zs) (sw3 ws) := by
  match zs, ws, h with
  | _, _, .nil => exact .nil
  | _, _, .cons a .nil => exact .nil
  | _, _, .cons a (.cons b .nil) => exact .nil
  | _, _, .cons a (.cons b (.cons c .nil)) => exact .cons c (.cons b (.cons a .nil))
  | _, _, .cons a (.cons b (.cons c (.cons d h))) => exact .nil
section
variable {P : Program} {w : World} {K : Frag} {mg : Str → Option Value} {base : Heap}
theorem ok_byName {f f0 f1 f2 f3 f4 f5 : Addr} {fd d0 d1 d2 d3 d4 d5 : FuncData} (T : Top K mg "_law_by_name" sLByName pLByName f fd) (R : NRs P w K mg base f0 f1 f2 f3 f4 f5 d0 d1 d2 d3 d4 d5) : FnOk P w K mg base CX0 5 f fd pLByName spNmd := by
  obtain ⟨T0, T1, T2, T3, T4, T5, G0, G1, G2, G3, G4, G5⟩ := R
  refine T.F.ok scLByName (fun vs H Q E h => ?_) (fun cdv A outer s H vs Q E hr h => ?_)
  · obtain ⟨_, _, _, _, _, _, _, rfl, _⟩ := h
    rfl
  · obtain ⟨j, L, us, ds, d, row, goal, rfl, eL, hd, hc, hs, q⟩ := h
    have K0 := KT.kbinds_mk (ps := pRaising) (ks := ["word", "goal", "kind"]) T0.F (by decide) (fun {α} ws => sw3 ws) (fun _ _ _ _ _ _ ws hl => match ws, hl with | [_, _, _], _ => rfl) sw3_vals
    have K1 := KT.kbinds_mk (ps := pComposing) (ks := ["other", "one"]) T1.F (by decide) (fun {α} ws => sw2 ws) (fun _ _ _ _ _ _ ws hl => match ws, hl with | [_, _], _ => rfl) sw2_vals
    have K2 := KT.kbinds_mk (ps := pDividing) (ks := ["divisor", "kind"]) T2.F (by decide) (fun {α} ws => sw2 ws) (fun _ _ _ _ _ _ ws hl => match ws, hl with | [_, _], _ => rfl) sw2_vals
    have K3 := KT.kbinds_mk (ps := pSwapping) (ks := ["kind"]) T3.F (by decide) (fun {α} ws => ws) (fun _ _ _ _ _ _ ws hl => match ws, hl with | [_], _ => rfl) (fun r => r)
    have K4 := KT.kbinds_mk (ps := pParting) (ks := ["kind"]) T4.F (by decide) (fun {α} ws => ws) (fun _ _ _ _ _ _ ws hl => match ws, hl with | [_], _ => rfl) (fun r => r)
    have K5 := KT.kbinds_mk (ps := pPacking) (ks := ["kind"]) T5.F (by decide) (fun {α} ws => ws) (fun _ _ _ _ _ _ ws hl => match ws, hl with | [_], _ => rfl) (fun r => r)
    refine ⟨_, (pss_cons (ps_if (pt_cmpR op_in_seq (pv 0) (pe_tup (pa_cons pe_int (pa_cons pe_int pa_nil))) (by rfl)) (pss_one (ps_ret (pe_ifExp (pt_cmpR op_eq (pv 0) pe_int (nomark _)) (KT.pe_callK0 G0 hr rfl T0.g T0.F.kp K0 pass0 (pk_cons (pe_ix ix_list (pv 1) pe_int (fun _ _ => rfl)) (pk_cons (pe_ix ix_list (pv 1) pe_int (fun _ _ => rfl)) (pk_cons (pe_ix ix_list (pv 1) pe_int (fun _ _ => rfl)) pk_nil)))) (KT.pe_callK0 G1 hr rfl T1.g T1.F.kp K1 pass0 (pk_cons (pe_ix ix_list (pv 1) pe_int (fun _ _ => rfl)) (pk_cons (pe_ix ix_list (pv 1) pe_int (fun _ _ => rfl)) pk_nil)))))) pss_nil)
      (pss_cons (ps_if (pt_cmpR op_in_seq (pv 0) (pe_tup (pa_cons pe_int (pa_cons pe_int pa_nil))) (by rfl)) (pss_one (ps_ret (pe_ifExp (pt_cmpR op_eq (pv 0) pe_int (nomark _)) (KT.pe_callK0 G2 hr rfl T2.g T2.F.kp K2 pass0 (pk_cons (pe_ix ix_list (pv 1) pe_int (fun _ _ => rfl)) (pk_cons (pe_ix ix_list (pv 1) pe_int (fun _ _ => rfl)) pk_nil))) (KT.pe_callK0 G3 hr rfl T3.g T3.F.kp K3 pass0 (pk_cons (pe_ix ix_list (pv 1) pe_int (fun _ _ => rfl)) pk_nil))))) pss_nil)
      (pss_one (ps_ret (pe_ifExp (pt_cmpR op_eq (pv 0) pe_int (nomark _)) (KT.pe_callK0 G4 hr rfl T4.g T4.F.kp K4 pass0 (pk_cons (pe_ix ix_list (pv 1) pe_int (fun _ _ => rfl)) pk_nil)) (KT.pe_callK0 G5 hr rfl T5.g T5.F.kp K5 pass0 (pk_cons (pe_ix ix_list (pv 1) pe_int (fun _ _ => rfl)) pk_nil))))))), ?_⟩
    have sz2 : 2 ≤ sizeLine := by rw [sizeLine_eq]; omega
    have ll := hd.length
    refine ⟨_, rfl, sz2, fun q7 n7 => ⟨q7, _, rfl, .inr (SqT.of upd_same), rfl, rfl, ?_⟩⟩
    have s7 := same_upd (o := .tup [.int 0, .int 1]) n7
    have eL7 := s7 _ _ eL
    have hd7 := hd.mono (TK.of_same s7)
    generalize upd H q7 _ = H7 at *
    rcases hc.shape with ⟨rfl, l⟩ | ⟨rfl, l⟩ | ⟨rfl, l⟩ | ⟨rfl, l⟩ | ⟨rfl, l⟩ | ⟨rfl, l⟩
    · rcases us with _ | ⟨u0, _ | ⟨u1, _ | ⟨u2, _ | ⟨u3, us⟩⟩⟩⟩
      · simp at ll; omega
      · simp at ll; omega
      · simp at ll; omega
      · refine ⟨true, congrArg V.bl (show _ = true by decide +kernel), iteT ⟨_, rfl, rfl, true, congrArg V.bl (decide_eq_true rfl), iteT ?_⟩⟩
        refine ⟨_, rfl, L, _, _, _, rfl, rfl, SqL.of eL7, atI_nat (j := 2) rfl, _, rfl, L, _, _, _, rfl, rfl, SqL.of eL7, atI_nat (j := 1) rfl, _, rfl, L, _, _, _, rfl, rfl, SqL.of eL7, atI_nat (j := 0) rfl, ?_⟩
        exact ⟨ds, d, row, goal, rfl, hd7, hc, hs, fun v' H' s' h' => q v' H' (s7.trans s') h'⟩
      · simp at ll; omega
    · rcases us with _ | ⟨u0, _ | ⟨u1, _ | ⟨u2, us⟩⟩⟩
      · simp at ll; omega
      · simp at ll; omega
      · refine ⟨true, congrArg V.bl (show _ = true by decide +kernel), iteT ⟨_, rfl, rfl, false, congrArg V.bl (decide_eq_false (by decide)), iteF ?_⟩⟩
        refine ⟨_, rfl, L, _, _, _, rfl, rfl, SqL.of eL7, atI_nat (j := 1) rfl, _, rfl, L, _, _, _, rfl, rfl, SqL.of eL7, atI_nat (j := 0) rfl, ?_⟩
        exact ⟨ds, d, row, goal, rfl, hd7, hc, hs, fun v' H' s' h' => q v' H' (s7.trans s') h'⟩
      · simp at ll; omega
    · rcases us with _ | ⟨u0, _ | ⟨u1, _ | ⟨u2, us⟩⟩⟩
      · simp at ll; omega
      · simp at ll; omega
      · refine ⟨false, congrArg V.bl (show _ = false by decide +kernel), iteF ?_⟩
        refine ⟨_, rfl, sz2, fun q8 n8 => ⟨q8, _, rfl, .inr (SqT.of upd_same), rfl, rfl, ?_⟩⟩
        have s8 := same_upd (o := .tup [.int 2, .int 3]) n8
        have eL8 := s8 _ _ eL7
        have hd8 := hd7.mono (TK.of_same s8)
        generalize upd H7 q8 _ = H8 at *
        refine ⟨true, congrArg V.bl (show _ = true by decide +kernel), iteT ⟨_, rfl, rfl, true, congrArg V.bl (decide_eq_true rfl), iteT ?_⟩⟩
        refine ⟨_, rfl, L, _, _, _, rfl, rfl, SqL.of eL8, atI_nat (j := 1) rfl, _, rfl, L, _, _, _, rfl, rfl, SqL.of eL8, atI_nat (j := 0) rfl, ?_⟩
        exact ⟨ds, d, row, goal, rfl, hd8, hc, hs, fun v' H' s' h' => q v' H' ((s7.trans s8).trans s') h'⟩
      · simp at ll; omega
    · rcases us with _ | ⟨u0, _ | ⟨u1, us⟩⟩
      · simp at ll; omega
      · refine ⟨false, congrArg V.bl (show _ = false by decide +kernel), iteF ?_⟩
        refine ⟨_, rfl, sz2, fun q8 n8 => ⟨q8, _, rfl, .inr (SqT.of upd_same), rfl, rfl, ?_⟩⟩
        have s8 := same_upd (o := .tup [.int 2, .int 3]) n8
        have eL8 := s8 _ _ eL7
        have hd8 := hd7.mono (TK.of_same s8)
        generalize upd H7 q8 _ = H8 at *
        refine ⟨true, congrArg V.bl (show _ = true by decide +kernel), iteT ⟨_, rfl, rfl, false, congrArg V.bl (decide_eq_false (by decide)), iteF ?_⟩⟩
        refine ⟨_, rfl, L, _, _, _, rfl, rfl, SqL.of eL8, atI_nat (j := 0) rfl, ?_⟩
        exact ⟨ds, d, row, goal, rfl, hd8, hc, hs, fun v' H' s' h' => q v' H' ((s7.trans s8).trans s') h'⟩
      · simp at ll; omega
    · rcases us with _ | ⟨u0, _ | ⟨u1, us⟩⟩
      · simp at ll; omega
      · refine ⟨false, congrArg V.bl (show _ = false by decide +kernel), iteF ?_⟩
        refine ⟨_, rfl, sz2, fun q8 n8 => ⟨q8, _, rfl, .inr (SqT.of upd_same), rfl, rfl, ?_⟩⟩
        have s8 := same_upd (o := .tup [.int 2, .int 3]) n8
        have eL8 := s8 _ _ eL7
        have hd8 := hd7.mono (TK.of_same s8)
        generalize upd H7 q8 _ = H8 at *
        refine ⟨false, congrArg V.bl (show _ = false by decide +kernel), iteF ⟨_, rfl, rfl, true, congrArg V.bl (decide_eq_true rfl), iteT ?_⟩⟩
        refine ⟨_, rfl, L, _, _, _, rfl, rfl, SqL.of eL8, atI_nat (j := 0) rfl, ?_⟩
        exact ⟨ds, d, row, goal, rfl, hd8, hc, hs, fun v' H' s' h' => q v' H' ((s7.trans s8).trans s') h'⟩
      · simp at ll; omega
    · rcases us with _ | ⟨u0, _ | ⟨u1, us⟩⟩
      · simp at ll; omega
      · refine ⟨false, congrArg V.bl (show _ = false by decide +kernel), iteF ?_⟩
        refine ⟨_, rfl, sz2, fun q8 n8 => ⟨q8, _, rfl, .inr (SqT.of upd_same), rfl, rfl, ?_⟩⟩
        have s8 := same_upd (o := .tup [.int 2, .int 3]) n8
        have eL8 := s8 _ _ eL7
        have hd8 := hd7.mono (TK.of_same s8)
        generalize upd H7 q8 _ = H8 at *
        refine ⟨false, congrArg V.bl (show _ = false by decide +kernel), iteF ⟨_, rfl, rfl, false, congrArg V.bl (decide_eq_false (by decide)), iteF ?_⟩⟩
        refine ⟨_, rfl, L, _, _, _, rfl, rfl, SqL.of eL8, atI_nat (j := 0) rfl, ?_⟩
        exact ⟨ds, d, row, goal, rfl, hd8, hc, hs, fun v' H' s' h' => q v' H' ((s7.trans s8).trans s') h'⟩
      · simp at ll; omega
end
end Q4

namespace Q4
open PySem PySem.Spec PyProof.Rows L2 NdefX LamX KT
open PySem.W (Frag)
theorem dep_mem {p : D} : ∀ {l : List D}, p ∈ l → p.dep ≤ depAll l
  | [], h => by cases h
  | d :: r, h => by
    simp only [depAll]
    rcases List.mem_cons.mp h with e | q
    · rw [e]; omega
    · have := dep_mem q; omega
/-! ### equal data again -/
theorem SameDt.tup {H : Hp} {p q : Addr} {xs ys : List V} {k : Nat} (e : H p = some (.tup xs)) (e' : H q = some (.tup ys)) (l : xs.length = ys.length) (m : xs.length ≤ 1000000) (h : ∀ (i : Nat) (x y : V), xs[i]? = some x → ys[i]? = some y → SameDt H k x y) : SameDt H (k + 1) (.ref p) (.ref q) := .inr ⟨p, q, xs, ys, rfl, rfl, .inr ⟨e, e'⟩, l, m, h⟩
theorem SameDt.d {H : Hp} : ∀ (n : Nat) {v v' : V} {u : D}, u.size ≤ n → n ≤ 40000 → DAt H v u → DAt H v' u → SameDt H u.dep v v' := by
  intro n
  induction n with
  | zero => intro v v' u h; have := u.size_pos; omega
  | succ n ih =>
    intro v v' u hz hn h h'
    cases h with
    | s h => cases h'; exact .scl (.s _)
    | i j => cases h'; exact .scl (.i _)
    | o => cases h'; exact .scl .o
    | @t p xs ds e hs =>
      cases h' with
      | @t p' ys _ e' hs' =>
        simp only [D.size] at hz
        have ll := len_size ds
        simp only [D.dep]
        refine .tup e e' (by rw [hs.length, hs'.length]) (by rw [hs.length]; omega) fun i x y h1 h2 => ?_
        obtain ⟨u, hu, hx⟩ := hs.at_ h1
        obtain ⟨u', hu', hy⟩ := hs'.at_ h2
        obtain rfl := Option.some.inj (hu.symm.trans hu')
        have mu := List.mem_of_getElem? hu
        have zm := size_mem mu
        have dm := dep_mem mu
        exact (ih (by omega) (by omega) hx hy).le dm
def AllK (H : Hp) (vs : List V) : Prop := ∀ v ∈ vs, ∃ t : Ty, TyAt H v t ∧ t.signs ≤ 2
theorem AllK.mono {H H' : Hp} {vs : List V} (h : AllK H vs) (t : TK H H') : AllK H' vs := fun v hv => by
  obtain ⟨t', a, b⟩ := h v hv
  exact ⟨t', a.mono t, b⟩
structure KI (p L : Addr) (zs : List Str) (n : Nat) (H0 : Hp) (W : Addr) (i : Nat) (H' : Hp) : Prop where
  kb : KeepBut p H0 H'
  hp : PurseAt H' p (n + 8 * i)
  ls : ∃ acc, H' W = some (.lst acc) ∧ acc.length = i ∧ AllK H' acc
section
variable {P : Program} {w : World} {K : Frag} {mg : Str → Option Value} {base : Heap}
structure LwRs (P : Program) (w : World) (K : Frag) (mg : Str → Option Value) (base : Heap) (fPu fPl fD fSk fCa fKF fSF fEx fBy fNa : Addr) (dPu dPl dD dSk dCa dKF dSF dEx dBy dNa : FuncData) : Prop where
  TPu : Top K mg "_law_purse" sLPurse ["script", "at"] fPu dPu
  TPl : Top K mg "_law_plain_some" sLPlainSome pLPlainSome fPl dPl
  TD : Top K mg "_law_draw" sLDraw ["purse", "many"] fD dD
  TSk : Top K mg "_law_some_kind" sLSomeKind pLSomeKind fSk dSk
  TCa : Top K mg "_law_cases" sLCases pLCases fCa dCa
  TKF : Top K mg "_law_kinds_fall" sLKindsFall pLKindsFall fKF dKF
  TSF : Top K mg "_law_shapes_fall" sLShapesFall pLShapesFall fSF dSF
  TEx : Top K mg "_law_exact" sLExact pLExact fEx dEx
  TBy : Top K mg "_law_by_name" sLByName pLByName fBy dBy
  TNa : Top K mg "_law_named" sLNamed pLNamed fNa dNa
  GPu : FnOk P w K mg base CX0 1 fPu dPu ["script", "at"] (spPurse K)
  GPl : FnOk P w K mg base CX0 5 fPl dPl pLPlainSome spPlainSome
  GD : FnOk P w K mg base CX0 2 fD dD ["purse", "many"] spDraw
  GSk : FnOk P w K mg base CX0 7 fSk dSk pLSomeKind spSomeKind
  GCa : FnOk P w K mg base CX0 1 fCa dCa pLCases spCases
  GKF : FnOk P w K mg base CX0 16 fKF dKF pLKindsFall spKFall
  GSF : FnOk P w K mg base CX0 16 fSF dSF pLShapesFall spSFall
  GEx : FnOk P w K mg base CX0 61 fEx dEx pLExact (spExact 60)
  GBy : FnOk P w K mg base CX0 5 fBy dBy pLByName spNmd
  GNa : FnOk P w K mg base CX0 5 fNa dNa pLNamed spNmd
def spLaw43 (K : Frag) : Sp := fun vs H Q _ => ∃ (a : Addr) (ns : List Int), vs = [.ref a] ∧ SqL K H a (ns.map V.int) ∧ ∀ H', Q (.bl true) H'
theorem ok_law43 {f fPu fPl fD fSk fCa fKF fSF fEx fBy fNa : Addr} {fd dPu dPl dD dSk dCa dKF dSF dEx dBy dNa : FuncData} (T : Top K mg "law" sLaw pLaw f fd) (R : LwRs P w K mg base fPu fPl fD fSk fCa fKF fSF fEx fBy fNa dPu dPl dD dSk dCa dKF dSF dEx dBy dNa) (B : Blt mg) : FnOk P w K mg base CX0 66 f fd pLaw (spLaw43 K) := by
  obtain ⟨TPu, TPl, TD, TSk, TCa, TKF, TSF, TEx, TBy, TNa, GPu, GPl, GD, GSk, GCa, GKF, GSF, GEx, GBy, GNa⟩ := R
  refine T.F.ok scLaw (fun vs H Q E h => ?_) (fun cdv A0 outer s H vs Q E hr h => ?_)
  · obtain ⟨_, _, rfl, _⟩ := h
    rfl
  · obtain ⟨sa, ns, rfl, hq, k⟩ := h
    have hr1 : Room 1 _ := hr.mono (by decide)
    have hr2 : Room 2 _ := hr.mono (by decide)
    have hr5 : Room 5 _ := hr.mono (by decide)
    have hr7 : Room 7 _ := hr.mono (by decide)
    have hr16 : Room 16 _ := hr.mono (by decide)
    have hr61 : Room 61 _ := hr.mono (by decide)
    refine ⟨_, (pss_cons (ps_set (i := 1) scLaw.nd rfl (Or.inr rfl) (pe_call GPu hr1 rfl TPu.g TPu.F.kp TPu.b .nil pass0 (pa_cons (pv 0) (pa_cons pe_int pa_nil))))
      (pss_cons (ps_set (i := 2) scLaw.nd rfl (Or.inr rfl) (pe_call GPl hr5 rfl TPl.g TPl.F.kp TPl.b .nil pass0 (pa_cons (pv 1) (pa_cons (pe_op op_add pe_int (pe_call GD hr2 rfl TD.g TD.F.kp TD.b .nil pass0 (pa_cons (pv 1) (pa_cons pe_int pa_nil)))) pa_nil))))
      (pss_cons (ps_asg (pe_lc (own := [("place", 8)]) (g := (gName 8)) (tt := tYes) rfl scLaw.nd (pi_range1 (by rfl) B.range (pa_cons pe_int pa_nil)) (blkOk_by (N := nLaw) (sc := defScope sLaw) (by decide +kernel)) (fun _ _ _ _ _ => pg_name (i := 8) scLaw.nd rfl (Or.inl rfl)) (fun _ _ _ _ _ => pts_nil) (fun _ _ _ _ _ => (pe_call GSk hr7 rfl TSk.g TSk.F.kp TSk.b .nil pass0 (pa_cons (pv 1) (pa_cons (pv 2) (pa_cons pe_int (pa_cons (pe_tup (pa_cons pe_str (pa_cons pe_str (pa_cons pe_str pa_nil)))) pa_nil))))))) (pg_lst (by rfl) (pgs_cons (pg_name (i := 3) scLaw.nd rfl (Or.inl rfl)) (pgs_cons (pg_name (i := 4) scLaw.nd rfl (Or.inl rfl)) (pgs_cons (pg_name (i := 5) scLaw.nd rfl (Or.inl rfl)) pgs_nil)))))
      (pss_cons (ps_for PassesOwn.never rfl (pi_range1 (by rfl) B.range (pa_cons pe_int pa_nil)) (pg_name (i := 6) scLaw.nd rfl (Or.inl rfl))
      (pss_cons (ps_if (PW.pt (pw_or (pt_not (pt_val (pe_call GKF hr16 rfl TKF.g TKF.F.kp TKF.b .nil pass0 (pa_cons (pe_ix ix_list (pv 2) pe_int (fun _ _ => rfl)) (pa_cons (pv 3) pa_nil))))) (pw_or1 (pt_not (pt_val (pe_call GSF hr16 rfl TSF.g TSF.F.kp TSF.b .nil pass0 (pa_cons (pv 3) (pa_cons (pv 4) (pa_cons (pv 5) (pa_cons (pe_ix ix_list (pv 2) pe_int (fun _ _ => rfl)) pa_nil)))))))))) (pss_one (ps_ret pe_bl)) pss_nil)
      (pss_one (ps_for PassesOwn.never rfl (pi_list (pe_call GCa hr1 rfl TCa.g TCa.F.kp TCa.b .nil pass0 (pa_cons (pv 3) (pa_cons (pv 4) (pa_cons (pv 5) pa_nil))))) (pg_name (i := 7) scLaw.nd rfl (Or.inl rfl))
      (pss_one (ps_if (pt_not (pt_val (pe_call GEx hr61 rfl TEx.g TEx.F.kp TEx.b .nil pass0 (pa_cons (pe_call GBy hr5 rfl TBy.g TBy.F.kp TBy.b .nil pass0 (pa_cons (pe_ix ix_list (pv 7) pe_int (fun _ _ => rfl)) (pa_cons (pe_ix ix_list (pv 7) pe_int (fun _ _ => rfl)) pa_nil))) (pa_cons (pe_call GNa hr5 rfl TNa.g TNa.F.kp TNa.b .nil pass0 (pa_cons (pe_ix ix_list (pv 7) pe_int (fun _ _ => rfl)) (pa_cons (pe_ix ix_list (pv 7) pe_int (fun _ _ => rfl)) pa_nil))) pa_nil))))) (pss_one (ps_ret pe_bl)) pss_nil))))))
      (pss_one (ps_ret pe_bl)))))), ?_⟩
    have sz3 : 3 ≤ sizeLine := by rw [sizeLine_eq]; omega
    refine ⟨_, rfl, sa, ns, 0, rfl, hq, by omega, by omega, fun p H1 s1 np hp1 => ?_⟩
    refine ⟨_, rfl, _, rfl, p, _, 3, rfl, hp1, by omega, by omega, by omega, fun d2 H2 c0 c1 off2 hp2 => ⟨_, _, rfl, rfl, ?_⟩⟩
    refine ⟨p, _, 1 + d2, rfl, hp2, by omega, by omega, by omega, fun Lp zs H4 wz kb3 nLp eL4 hp4 => ?_⟩
    refine ⟨3, rfl, by omega, by omega, fun W nW => ?_⟩
    have nWp := (hp4.ne nW).symm
    have nWL : W ≠ Lp := fun z => by rw [z, eL4] at nW; cases nW
    have sW := same_upd (o := .lst []) nW
    refine lc_range (lo := 0) (n := 3) (KI p Lp zs (61) H4 W) ⟨.of_same sW, by obtain ⟨p0, p1, p2, p3, e, r⟩ := hp4.mono (m := 61) (by omega); exact ⟨p0, p1, p2, p3, sW _ _ e, r⟩, [], upd_same, rfl, fun v hv => by cases hv⟩ ?_ ?_
    · rintro i H' hi ⟨kb, hp, acc, eW, la, hal⟩
      refine ⟨rfl, _, rfl, _, rfl, sz3, fun S nS => ?_⟩
      have sS := same_upd (o := .tup sgV) nS
      have hpS := hp.upd (hp.ne nS) (o := .tup sgV)
      have eWS := sS _ _ eW
      have eLS := sS _ _ (kb _ _ eL4 nLp)
      refine ⟨p, Lp, S, _, zs, rfl, hpS, by omega, nLp, eLS, wz, upd_same, fun x t H5 hx hs kb5 hp5 => ?_⟩
      have eW5 := kb5 _ _ eWS nWp
      have tk5 : TK H' H5 := (TK.of_same sS).trans (TK.of_keepBut kb5 hpS)
      have tkw : TK H5 (upd H5 W (.lst (acc ++ [x]))) := TK.upd_lst eW5
      refine ⟨acc, eW5, by rw [sizeLine_eq]; omega, ((kb.trans (.of_same sS)).trans kb5).upd_new nW, (hp5.upd nWp.symm).mono (by omega), acc ++ [x], upd_same, by rw [List.length_append, la]; rfl, fun v hv => ?_⟩
      rcases List.mem_append.mp hv with h | h
      · obtain ⟨t', a1, a2⟩ := hal v h
        exact ⟨t', (a1.mono tk5).mono tkw, a2⟩
      · rw [List.mem_singleton.mp h]
        exact ⟨t, hx.mono tkw, hs⟩
    rintro H5 ⟨kb5, hp5, acc, eW, la, hal⟩
    obtain ⟨x0, x1, x2, rfl⟩ : ∃ x0 x1 x2, acc = [x0, x1, x2] := by
      rcases acc with _ | ⟨a, _ | ⟨b, _ | ⟨c, _ | ⟨d, r⟩⟩⟩⟩
      · cases la
      · cases la
      · cases la
      · exact ⟨a, b, c, rfl⟩
      · simp at la
    have eL5 := kb5 _ _ eL4 nLp
    obtain ⟨z0, zr, rfl⟩ : ∃ z0 zr, zs = z0 :: zr := by
      cases zs with
      | nil => exact absurd wz.l1 (by simp)
      | cons z0 zr => exact ⟨z0, zr, rfl⟩
    have wz0 : IsW z0 := wz.w z0 List.mem_cons_self
    obtain ⟨ta, ha, la2⟩ := hal x0 (by simp)
    obtain ⟨tb, hb, lb2⟩ := hal x1 (by simp)
    obtain ⟨tc, hc, lc2⟩ := hal x2 (by simp)
    refine ⟨W, _, rfl, SqL.of eW, rfl, _, _, rfl, _, _, rfl, _, _, rfl, rfl, ?_⟩
    dsimp only
    refine ⟨2, rfl, by omega, by omega, ?_⟩
    refine for_range (lo := 0) (n := 2) (fun j σ H' => ∃ (v6 v7 v8 : Option V), σ = [some (.ref sa), some (.ref p), some (.ref Lp), some x0, some x1, some x2, v6, v7, v8] ∧ Same H5 H')
      ⟨none, none, none, rfl, Same.refl _⟩ ?_ ?_
    · rintro j σ H6 hj ⟨v6, v7, v8, rfl, s6⟩
      have eL6 := s6 _ _ eL5
      have ga : GoodK H6 x0 ta := ⟨ha.mono (TK.of_same s6), by omega⟩
      have gb : GoodK H6 x1 tb := ⟨hb.mono (TK.of_same s6), by omega⟩
      have gc : GoodK H6 x2 tc := ⟨hc.mono (TK.of_same s6), by omega⟩
      refine gN ?_
      refine ⟨_, rfl, Lp, _, _, _, rfl, rfl, SqL.of eL6, atI_nat (j := 0) rfl, _, rfl, z0, x0, ta, rfl, wz0, ga, fun H7 s7 => ⟨true, rfl, iteF ?_⟩⟩
      have eL7 := s7 _ _ eL6
      refine ⟨_, rfl, _, rfl, _, rfl, _, rfl, Lp, _, _, _, rfl, rfl, SqL.of eL7, atI_nat (j := 0) rfl, x0, x1, x2, ta, tb, tc, z0, rfl, wz0, ga.same s7, gb.same s7, gc.same s7, la2, lb2, lc2, fun H8 s8 => ⟨true, rfl, iteF ?_⟩⟩
      have s78 := s7.trans s8
      refine ⟨_, rfl, _, rfl, _, rfl, x0, x1, x2, ta, tb, tc, rfl, (ga.same s78).a, (gb.same s78).a, (gc.same s78).a, la2, lb2, lc2, fun L us H9 s9 eL9 lus good => ⟨L, rfl, ⟨_, SqL.of eL9⟩, ?_⟩⟩
      refine for_list (K := K) (xs := us) (fun i σ H' => ∃ (v7 v8 : Option V), σ = [some (.ref sa), some (.ref p), some (.ref Lp), some x0, some x1, some x2, some (.int (0 + (j : Int))), v7, v8] ∧ Same H9 H') ⟨_, _, rfl, Same.refl _⟩ (fun i σ H' _ ⟨_, _, _, q⟩ => SqL.of (q _ _ eL9)) ?_ ?_
      · rintro i z σ HA hz ⟨v7, v8, rfl, eA⟩
        obtain ⟨jj, ds, d, row, goal, q, A, R, g, us', ms, rfl, _, _, _, eq, eAA, hus, eR, hms, hg, c, br, bg⟩ := (good z (List.mem_of_getElem? hz)).same eA
        obtain ⟨sm1, sm2, sm3⟩ := c.small br bg
        have smB : ∀ e ∈ ds, e.dep ≤ 60 ∧ e.size ≤ 1000000 := fun e he => by have := sm1 e he; omega
        refine gN ?_
        refine ⟨_, rfl, q, _, _, _, rfl, rfl, SqL.of eq, atI_nat (j := 0) rfl, _, rfl, q, _, _, _, rfl, rfl, SqL.of eq, atI_nat (j := 1) rfl, jj, A, us', ds, d, row, goal, rfl, eAA, hus, c, smB, fun v1 HB sB hB => ?_⟩
        have eqB := sB _ _ eq
        refine ⟨_, rfl, q, _, _, _, rfl, rfl, SqL.of eqB, atI_nat (j := 0) rfl, _, rfl, q, _, _, _, rfl, rfl, SqL.of eqB, atI_nat (j := 1) rfl, jj, A, us', ds, d, row, goal, rfl, sB _ _ eAA, hus.mono (TK.of_same sB), c, smB, fun v2 HC sC hC => ?_⟩
        refine ⟨v1, v2, rfl, (SameDt.d 4000 (by omega) (by omega) (hB.mono (TK.of_same sC)) hC).le (by omega), fun HD sD => ⟨true, rfl, iteF ?_⟩⟩
        exact ⟨_, _, rfl, eA.trans ((sB.trans sC).trans sD)⟩
      · rintro σ HA ⟨v7, v8, rfl, eA⟩
        exact ⟨_, _, _, rfl, s6.trans (s78.trans (s9.trans eA))⟩
    · rintro σ H6 _
      exact k H6
end
end Q4

namespace Q4
open PySem PySem.Spec PyProof.Rows L2 LamX KT K1
open PySem.W (Frag)
section
variable {K : Frag} {h : Heap} {mg : Str → Option Value}
theorem err_mk {x nm q qI : Str} {C N fI T : Addr} {bs bm : List Value} {sn : List Str} {sub : List Value} {ab : Bool} {col : Option Bool} {dd : Option Addr} {m0 m1 m2 m3 m5 : Option Value} {od an oT : Option Addr} {sl sT : Array (Option Value)} {oc kV dc pm cd ct cT : Value} {p1 p2 p3 q1 q2 q3 q4 : Pos} {n : Nat}
    (X : K.In h) (G : h.Ns mainGlobals mg) (aC : PySem.W.nsIn K mainGlobals x = some (some (.ref C))) (xL : K.lookup C = some (excClassObj nm q C N bs bm true sn sub ab col dd m0 m1 m2 m3 m5 "ValueError.__new__"))
    (iC : PySem.W.findIn K (.ref C) "__init__" = some (some (.ref fI))) (lI : K.lookup fI = some ⟨oc, od, .func (PySem.W.fnOf "__init__" qI (eA p1 p2 p3) (eB q1 q2 q3 q4) eS (.ref T) kV dc pm an cd ct), sl⟩) (cI : PySem.W.codeIn K cd qI = true)
    (lT : K.lookup T = some ⟨cT, oT, .seq #[.none] n, sT⟩) (hbm : PySem.HandSPX.refsVE bm = true)
    (sa : PySem.W.findIn K (.ref C) "__setattr__" = some (some (.builtin "object.__setattr__"))) (tC : PySem.W.typeIn K (.ref C) = some (.type "type")) (kC : PySem.W.keepIn K (.ref C) = true) (tI : PySem.W.typeIn K (.ref fI) = some (.type "function"))
    (no : PySem.W.findIn K (.ref C) "value" = some none) (xf : XfC K C) : ErrC K mg x C fI where
  gC := PySem.W.mg_of X G aC
  ox := ⟨⟨nm, q, N, bs, bm, sn, sub, ab, col, dd, m0, m1, m2, m3, m5, xL, hbm⟩, sa, xf.exC, tC, kC⟩
  ga := xf.ga
  gg := xf.gg
  hd := xf.hdC
  noN := no
  iC := iC
  tI := tI
  fn := ⟨oc, od, kV, dc, pm, an, cd, ct, sl, p1, p2, p3, q1, q2, q3, q4, qI, T, _, n, lI, cI, lT, rfl⟩
def excB (K : Frag) (C : Addr) : Bool := xfB K C && (decide (PySem.W.findIn K (.ref C) "__class__" = some (some (.builtin "object.__class__"))) && (decide (PySem.W.specialIn K (.builtin "object.__class__") "__get__" = some (some (.builtin "getset_descriptor.__get__"))) &&
  (decide (PySem.W.takesIn K (.builtin "object.__class__") = some true) && decide (PySem.W.mroIn K C (.type "object") = some true))))
theorem excB_ok {C : Addr} (e : excB K C = true) : XfC K C ∧ ExcC K C := by
  obtain ⟨h1, e⟩ := Bool.and_eq_true_iff.mp e
  obtain ⟨h2, e⟩ := Bool.and_eq_true_iff.mp e
  obtain ⟨h3, e⟩ := Bool.and_eq_true_iff.mp e
  obtain ⟨h4, h5⟩ := Bool.and_eq_true_iff.mp e
  have x := xfB_ok h1
  exact ⟨x, ⟨x.ga, x.gg, x.exC, x.hdC, of_decide_eq_true h2, of_decide_eq_true h3, of_decide_eq_true h4, of_decide_eq_true h5⟩⟩
end
theorem ecs_mk {K : Frag} {mg : Str → Option Value} {aK aW aR BP f1 f2 f3 : Addr} (c1 : ErrC K mg "InvalidKind" aK f1) (c2 : ErrC K mg "InvalidWord" aW f2) (c3 : ErrC K mg "Refused" aR f3) (g : mg "PhraseError" = some (.ref BP))
    (m : ∀ x y : Er, PySem.W.kitOne K (.ref (x.at_ ⟨aK, aW, aR⟩)) (.ref (y.at_ ⟨aK, aW, aR⟩)) = some (decide (x = y))) (e : ∀ x : Er, excB K (x.at_ ⟨aK, aW, aR⟩) = true) (n : ∀ x : Er, PySem.W.findIn K (.ref (x.at_ ⟨aK, aW, aR⟩)) "value" = some none)
    (p : ∀ x : Er, PySem.W.exmOne K (.ref (x.at_ ⟨aK, aW, aR⟩)) (.ref BP) = some true) : Ecs K mg ⟨aK, aW, aR⟩ BP :=
  ⟨m, fun x => ⟨(excB_ok (e x)).1, (excB_ok (e x)).2, n x⟩, p, g, c1.gC, c2.gC, c3.gC⟩
end Q4

namespace Q4
open PySem PySem.Spec PyProof.Rows L2 NdefX LamX KT
open PySem.W (Frag)
section
variable {K : Frag} {h : Heap} {mg : Str → Option Value}
theorem top_mk {x : Str} {st : Stmt} {ps : List Str} {f : Addr} {od an : Option Addr} {sl : Array (Option Value)} {oc kV dc pm cd ct : Value} (X : K.In h) (G : h.Ns mainGlobals mg) (a : PySem.W.nsIn K mainGlobals x = some (some (.ref f)))
    (l : K.lookup f = some ⟨oc, od, .func (PySem.W.fnOf x x (L2.defArgs st) (L2.defBody st) (L2.defScope st) .none kV dc pm an cd ct), sl⟩) (c : PySem.W.codeIn K cd x = true) (k : PySem.W.keepIn K (.ref f) = true)
    (b : ∀ (kV doc pm : Value) (an : Option Addr) (cdv ct : Value) (us : List Value), us.length = ps.length → bindArgs (PySem.W.fnOf x x (L2.defArgs st) (L2.defBody st) (L2.defScope st) .none kV doc pm an cdv ct) ⟨us, []⟩ = pure (ps.zip us)) :
    Top K mg x st ps f (PySem.W.fnOf x x (L2.defArgs st) (L2.defBody st) (L2.defScope st) .none kV dc pm an cd ct) := by
  have F := L2.fun_mk (x := x) (qual := x) (st := st) l c k
  exact ⟨F, PySem.W.mg_of X G a, F.binds b⟩
theorem gbl_mk {t : Tok} {a : Addr} {od : Option Addr} {sl : Array (Option Value)} {t1 t2 t3 : Tok} {n : Nat} (X : K.In h) (G : h.Ns mainGlobals mg) (l : PySem.W.nsIn K mainGlobals "_LETTERS" = some (some (.str abc t))) (s : PySem.W.nsIn K mainGlobals "_SIGNS" = some (some (.ref a)))
    (k : K.lookup a = some ⟨.type "tuple", od, .seq #[.str "over" t1, .str "then" t2, .str "under" t3] n, sl⟩) : Gbl K mg :=
  ⟨⟨t, PySem.W.mg_of X G l⟩, a, PySem.W.mg_of X G s, .inr ⟨_, _, _, k, rfl, rfl, by show 3 ≤ sizeLine; rw [sizeLine_eq]; omega, .cons ⟨_, rfl⟩ (.cons ⟨_, rfl⟩ (.cons ⟨_, rfl⟩ .nil))⟩⟩
theorem end_mk {l : PySem.W.OpenLaw} {w : World} {fa : Addr} {fd : FuncData} (_T : Top K mg "law" sLaw pLaw fa fd) (hb : ∀ (s : Shared) (u : Value), BindsTo s fd ⟨[u], []⟩ [("script", u)])
    (F : ∀ base : Heap, FnOk l.prog w K mg base L2.CX0 66 fa fd ["script"] (spLaw43 K)) : LawAtS l w K L2.CX0 66 63 "script" mg fa h := by
  refine ⟨fd, [], spLaw43 K, by simp, by simp, by simp, hb, fun H a ns _ _ hH hS => ⟨a, ns, rfl, hS, fun _ => rfl⟩, fun base _ _ _ => F base⟩
end
end Q4


open PySem PySem.W PyProof.Rows
set_option maxRecDepth 100000 in
set_option maxHeartbeats 0 in
theorem PySem.Challenge.cw_phrasejoins_k43_named_steps_refused_and_holds : PySem.Challenge.rw_phrasejoins_k43_named_steps_refused_and.Holds := by
  w_on; o_law; k_head; (case hw => w_witness2)
  k_fill
  refine LamX.walk_ofTs (l := PySem.Challenge.rw_phrasejoins_k43_named_steps_refused_and) (n := 63) (k := 66) (x := "script") (CX := fun _ => L2.CX0) rfl (by decide) rfl ⟨rfl, by decide, by decide⟩ (fun w h Y => PySem.W.kIn_of Y) ?F (fun _ _ _ _ _ h => h)
  case F =>
    intro w mg fa h Y KX G hmg

    have TIsWord := Q4.top_mk (x := "is_word") (st := Q4.sIsWord) (ps := Q4.pIsWord) KX G (by k_is) (by k_is) (by k_is) (by k_is) (fun _ _ _ _ _ _ us hl => match us, hl with | [_], _ => rfl)
    have TIsSigned := Q4.top_mk (x := "_is_signed") (st := Q4.sIsSigned) (ps := Q4.pIsSigned) KX G (by k_is) (by k_is) (by k_is) (by k_is) (fun _ _ _ _ _ _ us hl => match us, hl with | [_], _ => rfl)
    have TIsKind := Q4.top_mk (x := "is_kind") (st := Q4.sIsKind) (ps := Q4.pIsKind) KX G (by k_is) (by k_is) (by k_is) (by k_is) (fun _ _ _ _ _ _ us hl => match us, hl with | [_], _ => rfl)
    have TCheckKind := Q4.top_mk (x := "check_kind") (st := Q4.sCheckKind) (ps := Q4.pCheckKind) KX G (by k_is) (by k_is) (by k_is) (by k_is) (fun _ _ _ _ _ _ us hl => match us, hl with | [_], _ => rfl)
    have THasSign := Q4.top_mk (x := "has_sign") (st := Q4.sHasSign) (ps := Q4.pHasSign) KX G (by k_is) (by k_is) (by k_is) (by k_is) (fun _ _ _ _ _ _ us hl => match us, hl with | [_, _], _ => rfl)
    have TOver := Q4.top_mk (x := "_over") (st := Q4.sOver) (ps := Q4.pOver) KX G (by k_is) (by k_is) (by k_is) (by k_is) (fun _ _ _ _ _ _ us hl => match us, hl with | [_, _], _ => rfl)
    have TUnder := Q4.top_mk (x := "_under") (st := Q4.sUnder) (ps := Q4.pUnder) KX G (by k_is) (by k_is) (by k_is) (by k_is) (fun _ _ _ _ _ _ us hl => match us, hl with | [_, _], _ => rfl)
    have TRaising := Q4.top_mk (x := "raising") (st := Q4.sRaising) (ps := Q4.pRaising) KX G (by k_is) (by k_is) (by k_is) (by k_is) (fun _ _ _ _ _ _ us hl => match us, hl with | [_, _, _], _ => rfl)
    have TComposedOver := Q4.top_mk (x := "_composed_over") (st := Q4.sComposedOver) (ps := Q4.pComposedOver) KX G (by k_is) (by k_is) (by k_is) (by k_is) (fun _ _ _ _ _ _ us hl => match us, hl with | [_, _, _], _ => rfl)
    have TComposedUnder := Q4.top_mk (x := "_composed_under") (st := Q4.sComposedUnder) (ps := Q4.pComposedUnder) KX G (by k_is) (by k_is) (by k_is) (by k_is) (fun _ _ _ _ _ _ us hl => match us, hl with | [_, _, _], _ => rfl)
    have TComposing := Q4.top_mk (x := "composing") (st := Q4.sComposing) (ps := Q4.pComposing) KX G (by k_is) (by k_is) (by k_is) (by k_is) (fun _ _ _ _ _ _ us hl => match us, hl with | [_, _], _ => rfl)
    have TDividing := Q4.top_mk (x := "dividing") (st := Q4.sDividing) (ps := Q4.pDividing) KX G (by k_is) (by k_is) (by k_is) (by k_is) (fun _ _ _ _ _ _ us hl => match us, hl with | [_, _], _ => rfl)
    have TSwapping := Q4.top_mk (x := "swapping") (st := Q4.sSwapping) (ps := Q4.pSwapping) KX G (by k_is) (by k_is) (by k_is) (by k_is) (fun _ _ _ _ _ _ us hl => match us, hl with | [_], _ => rfl)
    have TParting := Q4.top_mk (x := "parting") (st := Q4.sParting) (ps := Q4.pParting) KX G (by k_is) (by k_is) (by k_is) (by k_is) (fun _ _ _ _ _ _ us hl => match us, hl with | [_], _ => rfl)
    have TPacking := Q4.top_mk (x := "packing") (st := Q4.sPacking) (ps := Q4.pPacking) KX G (by k_is) (by k_is) (by k_is) (by k_is) (fun _ _ _ _ _ _ us hl => match us, hl with | [_], _ => rfl)
    have TLPurse := Q4.top_mk (x := "_law_purse") (st := Q4.sLPurse) (ps := Q4.pLPurse) KX G (by k_is) (by k_is) (by k_is) (by k_is) (fun _ _ _ _ _ _ us hl => match us, hl with | [_, _], _ => rfl)
    have TLMixed := Q4.top_mk (x := "_law_mixed") (st := Q4.sLMixed) (ps := Q4.pLMixed) KX G (by k_is) (by k_is) (by k_is) (by k_is) (fun _ _ _ _ _ _ us hl => match us, hl with | [_, _, _], _ => rfl)
    have TLDraw := Q4.top_mk (x := "_law_draw") (st := Q4.sLDraw) (ps := Q4.pLDraw) KX G (by k_is) (by k_is) (by k_is) (by k_is) (fun _ _ _ _ _ _ us hl => match us, hl with | [_, _], _ => rfl)
    have TLOneOf := Q4.top_mk (x := "_law_one_of") (st := Q4.sLOneOf) (ps := Q4.pLOneOf) KX G (by k_is) (by k_is) (by k_is) (by k_is) (fun _ _ _ _ _ _ us hl => match us, hl with | [_, _], _ => rfl)
    have TLExact := Q4.top_mk (x := "_law_exact") (st := Q4.sLExact) (ps := Q4.pLExact) KX G (by k_is) (by k_is) (by k_is) (by k_is) (fun _ _ _ _ _ _ us hl => match us, hl with | [_, _], _ => rfl)
    have TLWord := Q4.top_mk (x := "_law_word") (st := Q4.sLWord) (ps := Q4.pLWord) KX G (by k_is) (by k_is) (by k_is) (by k_is) (fun _ _ _ _ _ _ us hl => match us, hl with | [_], _ => rfl)
    have TLWords := Q4.top_mk (x := "_law_words") (st := Q4.sLWords) (ps := Q4.pLWords) KX G (by k_is) (by k_is) (by k_is) (by k_is) (fun _ _ _ _ _ _ us hl => match us, hl with | [_, _], _ => rfl)
    have TLIsVery := Q4.top_mk (x := "_law_is_very") (st := Q4.sLIsVery) (ps := Q4.pLIsVery) KX G (by k_is) (by k_is) (by k_is) (by k_is) (fun _ _ _ _ _ _ us hl => match us, hl with | [_, _], _ => rfl)
    have TLKind := Q4.top_mk (x := "_law_kind") (st := Q4.sLKind) (ps := Q4.pLKind) KX G (by k_is) (by k_is) (by k_is) (by k_is) (fun _ _ _ _ _ _ us hl => match us, hl with | [_, _, _, _], _ => rfl)
    have TLSomeKind := Q4.top_mk (x := "_law_some_kind") (st := Q4.sLSomeKind) (ps := Q4.pLSomeKind) KX G (by k_is) (by k_is) (by k_is) (by k_is) (fun _ _ _ _ _ _ us hl => match us, hl with | [_, _, _, _], _ => rfl)
    have TLOddKinds := Q4.top_mk (x := "_law_odd_kinds") (st := Q4.sLOddKinds) (ps := Q4.pLOddKinds) KX G (by k_is) (by k_is) (by k_is) (by k_is) (fun _ _ _ _ _ _ us hl => match us, hl with | [_], _ => rfl)
    have TLNamed := Q4.top_mk (x := "_law_named") (st := Q4.sLNamed) (ps := Q4.pLNamed) KX G (by k_is) (by k_is) (by k_is) (by k_is) (fun _ _ _ _ _ _ us hl => match us, hl with | [_, _], _ => rfl)
    have TLCases := Q4.top_mk (x := "_law_cases") (st := Q4.sLCases) (ps := Q4.pLCases) KX G (by k_is) (by k_is) (by k_is) (by k_is) (fun _ _ _ _ _ _ us hl => match us, hl with | [_, _, _], _ => rfl)
    have TLPlainSome := Q4.top_mk (x := "_law_plain_some") (st := Q4.sLPlainSome) (ps := Q4.pLPlainSome) KX G (by k_is) (by k_is) (by k_is) (by k_is) (fun _ _ _ _ _ _ us hl => match us, hl with | [_, _], _ => rfl)
    have TLByName := Q4.top_mk (x := "_law_by_name") (st := Q4.sLByName) (ps := Q4.pLByName) KX G (by k_is) (by k_is) (by k_is) (by k_is) (fun _ _ _ _ _ _ us hl => match us, hl with | [_, _], _ => rfl)
    have TLRaises := Q4.top_mk (x := "_law_raises") (st := Q4.sLRaises) (ps := Q4.pLRaises) KX G (by k_is) (by k_is) (by k_is) (by k_is) (fun _ _ _ _ _ _ us hl => match us, hl with | [_, _, _, _], _ => rfl)
    have TLWordOf := Q4.top_mk (x := "_law_word_of") (st := Q4.sLWordOf) (ps := Q4.pLWordOf) KX G (by k_is) (by k_is) (by k_is) (by k_is) (fun _ _ _ _ _ _ us hl => match us, hl with | [_], _ => rfl)
    have TLKindsFall := Q4.top_mk (x := "_law_kinds_fall") (st := Q4.sLKindsFall) (ps := Q4.pLKindsFall) KX G (by k_is) (by k_is) (by k_is) (by k_is) (fun _ _ _ _ _ _ us hl => match us, hl with | [_, _], _ => rfl)
    have TLShapesFall := Q4.top_mk (x := "_law_shapes_fall") (st := Q4.sLShapesFall) (ps := Q4.pLShapesFall) KX G (by k_is) (by k_is) (by k_is) (by k_is) (fun _ _ _ _ _ _ us hl => match us, hl with | [_, _, _, _], _ => rfl)
    have TLaw := Q4.top_mk (x := "law") (st := Q4.sLaw) (ps := Q4.pLaw) KX G (by k_is) (by k_is) (by k_is) (by k_is) (fun _ _ _ _ _ _ us hl => match us, hl with | [_], _ => rfl)
    have E := hmg.symm.trans TLaw.g
    cases E
    have B : Q4.Blt mg := ⟨PySem.W.mg_none_of KX G (by k_is), PySem.W.mg_none_of KX G (by k_is), PySem.W.mg_none_of KX G (by k_is), PySem.W.mg_none_of KX G (by k_is), PySem.W.mg_none_of KX G (by k_is), PySem.W.mg_none_of KX G (by k_is), PySem.W.mg_none_of KX G (by k_is), PySem.W.mg_none_of KX G (by k_is), PySem.W.mg_none_of KX G (by k_is), PySem.W.mg_none_of KX G (by k_is), PySem.W.mg_none_of KX G (by k_is), PySem.W.mg_none_of KX G (by k_is), PySem.W.mg_none_of KX G (by k_is), PySem.W.mg_none_of KX G (by k_is), PySem.W.mg_none_of KX G (by k_is), PySem.W.mg_none_of KX G (by k_is), PySem.W.mg_none_of KX G (by k_is), PySem.W.mg_none_of KX G (by k_is), PySem.W.mg_none_of KX G (by k_is)⟩
    have GG : Q4.Gbl _ mg := Q4.gbl_mk KX G (by k_is) (by k_is) (by k_is)
    have cK := Q4.err_mk (x := "InvalidKind") KX G (by k_is) (by k_is) (by k_is) (by k_is) (by k_is) (by k_is) (by rfl) (by k_is) (by k_is) (by k_is) (by k_is) (by k_is) (Q4.excB_ok (by kernel_rfl)).1
    have cW := Q4.err_mk (x := "InvalidWord") KX G (by k_is) (by k_is) (by k_is) (by k_is) (by k_is) (by k_is) (by rfl) (by k_is) (by k_is) (by k_is) (by k_is) (by k_is) (Q4.excB_ok (by kernel_rfl)).1
    have cR := Q4.err_mk (x := "Refused") KX G (by k_is) (by k_is) (by k_is) (by k_is) (by k_is) (by k_is) (by rfl) (by k_is) (by k_is) (by k_is) (by k_is) (by k_is) (Q4.excB_ok (by kernel_rfl)).1
    have EC := Q4.ecs_mk cK cW cR (PySem.W.mg_of KX G (by k_is)) (fun x y => (by cases x <;> cases y <;> kernel_rfl)) (fun x => (by cases x <;> kernel_rfl)) (fun x => (by cases x <;> kernel_rfl)) (fun x => (by cases x <;> kernel_rfl))
    refine Q4.end_mk TLaw (fun s u => .of_eq rfl) (fun base => ?_)
    have gIsKind := Q4.ok_isKindD (P := PySem.Challenge.rw_phrasejoins_k43_named_steps_refused_and.prog) (w := w) (base := base) TIsKind TIsSigned TIsWord B GG
    have gIsKindA := Q4.ok_isKindA (P := PySem.Challenge.rw_phrasejoins_k43_named_steps_refused_and.prog) (w := w) (base := base) TIsKind TIsSigned TIsWord B GG
    have gCK := Q4.ok_checkKindT (P := PySem.Challenge.rw_phrasejoins_k43_named_steps_refused_and.prog) (w := w) (base := base) TCheckKind TIsKind gIsKind
    have nCK := Q4.no_check (Q4.ok_checkKindA (P := PySem.Challenge.rw_phrasejoins_k43_named_steps_refused_and.prog) (w := w) (base := base) TCheckKind TIsKind gIsKindA cK)
    have rCK := Q4.right_kind (P := PySem.Challenge.rw_phrasejoins_k43_named_steps_refused_and.prog) (w := w) (base := base) TCheckKind TIsKind gIsKindA
    have gHS := Q4.ok_hasSign (P := PySem.Challenge.rw_phrasejoins_k43_named_steps_refused_and.prog) (w := w) (base := base) THasSign B
    have gO := Q4.ok_over (P := PySem.Challenge.rw_phrasejoins_k43_named_steps_refused_and.prog) (w := w) (base := base) TOver
    have gU := Q4.ok_under (P := PySem.Challenge.rw_phrasejoins_k43_named_steps_refused_and.prog) (w := w) (base := base) TUnder
    have gCO := Q4.ok_compOver (P := PySem.Challenge.rw_phrasejoins_k43_named_steps_refused_and.prog) (w := w) (base := base) TComposedOver TOver gO
    have gCU := Q4.ok_compUnder (P := PySem.Challenge.rw_phrasejoins_k43_named_steps_refused_and.prog) (w := w) (base := base) TComposedUnder TUnder gU
    have g0 := Q4.ok_raising (P := PySem.Challenge.rw_phrasejoins_k43_named_steps_refused_and.prog) (w := w) (base := base) TRaising TCheckKind THasSign TOver TUnder gCK gHS gO gU
    have g1 := Q4.ok_composing (P := PySem.Challenge.rw_phrasejoins_k43_named_steps_refused_and.prog) (w := w) (base := base) TComposing TCheckKind THasSign TComposedOver TComposedUnder gCK gHS gCO gCU
    have g2 := Q4.ok_dividing (P := PySem.Challenge.rw_phrasejoins_k43_named_steps_refused_and.prog) (w := w) (base := base) TDividing TCheckKind THasSign TComposedOver TComposedUnder gCK gHS gCO gCU
    have g3 := Q4.ok_swapping (P := PySem.Challenge.rw_phrasejoins_k43_named_steps_refused_and.prog) (w := w) (base := base) TSwapping TCheckKind THasSign TOver TUnder gCK gHS gO gU
    have g4 := Q4.ok_parting (P := PySem.Challenge.rw_phrasejoins_k43_named_steps_refused_and.prog) (w := w) (base := base) TParting TCheckKind THasSign gCK gHS
    have g5 := Q4.ok_packing (P := PySem.Challenge.rw_phrasejoins_k43_named_steps_refused_and.prog) (w := w) (base := base) TPacking TCheckKind THasSign TOver TUnder gCK gHS gO gU
    have e0 := Q4.e_raising (c := ⟨45, 65, 85⟩) (Q4.no_raising1 (P := PySem.Challenge.rw_phrasejoins_k43_named_steps_refused_and.prog) (w := w) (base := base) TRaising TCheckKind nCK) (Q4.no_raising2 (P := PySem.Challenge.rw_phrasejoins_k43_named_steps_refused_and.prog) (w := w) (base := base) TRaising TCheckKind rCK nCK) (Q4.ref_raising (P := PySem.Challenge.rw_phrasejoins_k43_named_steps_refused_and.prog) (w := w) (base := base) TRaising TCheckKind gCK cW)
    have e1 := Q4.e_composing (c := ⟨45, 65, 85⟩) (Q4.no_composing1 (P := PySem.Challenge.rw_phrasejoins_k43_named_steps_refused_and.prog) (w := w) (base := base) TComposing TCheckKind nCK) (Q4.no_composing2 (P := PySem.Challenge.rw_phrasejoins_k43_named_steps_refused_and.prog) (w := w) (base := base) TComposing TCheckKind rCK nCK) (Q4.ref_composing (P := PySem.Challenge.rw_phrasejoins_k43_named_steps_refused_and.prog) (w := w) (base := base) TComposing TCheckKind THasSign gCK gHS cR)
    have e2 := Q4.e_dividing (c := ⟨45, 65, 85⟩) (Q4.no_dividing1 (P := PySem.Challenge.rw_phrasejoins_k43_named_steps_refused_and.prog) (w := w) (base := base) TDividing TCheckKind nCK) (Q4.no_dividing2 (P := PySem.Challenge.rw_phrasejoins_k43_named_steps_refused_and.prog) (w := w) (base := base) TDividing TCheckKind rCK nCK) (Q4.ref_dividing (P := PySem.Challenge.rw_phrasejoins_k43_named_steps_refused_and.prog) (w := w) (base := base) TDividing TCheckKind THasSign gCK gHS cR)
    have e3 := Q4.e_swapping (c := ⟨45, 65, 85⟩) (Q4.no_swapping (P := PySem.Challenge.rw_phrasejoins_k43_named_steps_refused_and.prog) (w := w) (base := base) TSwapping TCheckKind nCK) (Q4.ref_swapping (P := PySem.Challenge.rw_phrasejoins_k43_named_steps_refused_and.prog) (w := w) (base := base) TSwapping TCheckKind THasSign gCK gHS cR)
    have e4 := Q4.e_parting (c := ⟨45, 65, 85⟩) (Q4.no_parting (P := PySem.Challenge.rw_phrasejoins_k43_named_steps_refused_and.prog) (w := w) (base := base) TParting TCheckKind nCK) (Q4.ref_parting (P := PySem.Challenge.rw_phrasejoins_k43_named_steps_refused_and.prog) (w := w) (base := base) TParting TCheckKind THasSign gCK gHS cR)
    have e5 := Q4.e_packing (c := ⟨45, 65, 85⟩) (Q4.no_packing (P := PySem.Challenge.rw_phrasejoins_k43_named_steps_refused_and.prog) (w := w) (base := base) TPacking TCheckKind nCK) (Q4.ref_packing (P := PySem.Challenge.rw_phrasejoins_k43_named_steps_refused_and.prog) (w := w) (base := base) TPacking TCheckKind THasSign gCK gHS cR)
    have lDraw := Q4.ok_draw (P := PySem.Challenge.rw_phrasejoins_k43_named_steps_refused_and.prog) (w := w) (base := base) TLDraw TLMixed B
    have lOne := Q4.ok_oneOf (P := PySem.Challenge.rw_phrasejoins_k43_named_steps_refused_and.prog) (w := w) (base := base) TLOneOf TLDraw TLMixed B
    have lOneT := Q4.ok_oneOfT (P := PySem.Challenge.rw_phrasejoins_k43_named_steps_refused_and.prog) (w := w) (base := base) TLOneOf TLDraw lDraw B
    have lWords := Q4.ok_words (P := PySem.Challenge.rw_phrasejoins_k43_named_steps_refused_and.prog) (w := w) (base := base) TLWords TLWord TLDraw TLMixed B
    have lPurse := Q4.ok_purse (P := PySem.Challenge.rw_phrasejoins_k43_named_steps_refused_and.prog) (w := w) (base := base) TLPurse B
    have lPl := Q4.ok_plainSome (P := PySem.Challenge.rw_phrasejoins_k43_named_steps_refused_and.prog) (w := w) (base := base) TLPlainSome TLWords TLOneOf TLDraw lDraw lOne lWords B
    have lKd := Q4.ok_kindS (P := PySem.Challenge.rw_phrasejoins_k43_named_steps_refused_and.prog) (w := w) (base := base) TLKind TLDraw TLOneOf lDraw lOne lOneT B 2 (by decide)
    have lSk := Q4.ok_someKind (P := PySem.Challenge.rw_phrasejoins_k43_named_steps_refused_and.prog) (w := w) (base := base) TLSomeKind TLKind TLDraw lDraw lKd
    have lExact := Q4.ok_exact (P := PySem.Challenge.rw_phrasejoins_k43_named_steps_refused_and.prog) (w := w) (base := base) TLExact B 60 (by decide)
    have lNamed := Q4.ok_named (P := PySem.Challenge.rw_phrasejoins_k43_named_steps_refused_and.prog) (w := w) (base := base) TLNamed ⟨TRaising, TComposing, TDividing, TSwapping, TParting, TPacking, g0, g1, g2, g3, g4, g5⟩
    have lByN := Q4.ok_byName (P := PySem.Challenge.rw_phrasejoins_k43_named_steps_refused_and.prog) (w := w) (base := base) TLByName ⟨TRaising, TComposing, TDividing, TSwapping, TParting, TPacking, g0, g1, g2, g3, g4, g5⟩
    have lNamedE := Q4.err_named (P := PySem.Challenge.rw_phrasejoins_k43_named_steps_refused_and.prog) (w := w) (base := base) TLNamed ⟨TRaising, TComposing, TDividing, TSwapping, TParting, TPacking, e0, e1, e2, e3, e4, e5⟩
    have lCases := Q4.ok_cases (P := PySem.Challenge.rw_phrasejoins_k43_named_steps_refused_and.prog) (w := w) (base := base) TLCases
    have lVery := fun e => Q4.ok_isVery (P := PySem.Challenge.rw_phrasejoins_k43_named_steps_refused_and.prog) (w := w) (base := base) (e := e) TLIsVery TLExact (Q4.ok_exactE (P := PySem.Challenge.rw_phrasejoins_k43_named_steps_refused_and.prog) (w := w) (base := base) (e := e) TLExact B 12) B
    have lWO := fun e => Q4.ok_wordOf (P := PySem.Challenge.rw_phrasejoins_k43_named_steps_refused_and.prog) (w := w) (base := base) (e := e) TLWordOf EC B
    have lRaises := Q4.ok_raises (P := PySem.Challenge.rw_phrasejoins_k43_named_steps_refused_and.prog) (w := w) (base := base) TLRaises TLNamed lNamedE TLWordOf lWO TLIsVery lVery EC B
    have lOW := Q4.ok_lOddW (P := PySem.Challenge.rw_phrasejoins_k43_named_steps_refused_and.prog) (w_ := w) (base := base) TLOddKinds
    have lKF := Q4.ok_kfall (P := PySem.Challenge.rw_phrasejoins_k43_named_steps_refused_and.prog) (w_ := w) (base := base) TLKindsFall TLOddKinds lOW TLRaises lRaises B
    have lSF := Q4.ok_sfall (P := PySem.Challenge.rw_phrasejoins_k43_named_steps_refused_and.prog) (w_ := w) (base := base) TLShapesFall TLRaises lRaises B
    exact Q4.ok_law43 (P := PySem.Challenge.rw_phrasejoins_k43_named_steps_refused_and.prog) (w := w) (base := base) TLaw ⟨TLPurse, TLPlainSome, TLDraw, TLSomeKind, TLCases, TLKindsFall, TLShapesFall, TLExact, TLByName, TLNamed, lPurse, lPl, lDraw, lSk, lCases, lKF, lSF, lExact, lByN, lNamed⟩ B
