import PyProof.Rows.All
import Wide.All
import OpenK.AllK
import Wide.FinOn
import HandS.ForMost
import HandS.WideBits
import HandS.Defaults
import HandS.ExcInit
import HandS.IsInst
import HandS.Style
import HandS.Strs
import HandS.Zip
import HandS.NestedK
import HandS.EndTab
import HandS.CallLocal
import HandS.Walk
import PyProof.ListStr
import HandS.Conv
import HandS.Set
import HandS.TupSets
import HandS.SetFor
import HandS.SetTxt0
import PyProof.Rows.SortShellAny
import HandS.Deep
import PyProof.P3In
import HandS.More
import HandS.TryOnly
import HandS.TupLe
import HandS.HeadHook3
import PySem.Challenge.RW_phrasejoins_k42_whole_steps_known_by_nam
set_option Elab.async false
set_option linter.all false
set_option maxRecDepth 100000
set_option maxHeartbeats 8000000
/-! Rules of our own: a list extended by a tuple; the end of a list cut off. Types as data. -/
namespace KT
open PySem PySem.Spec PyProof.Rows L2
open PySem.Sem (wp)
open MeetsSeq
/-! ### xs.extend(t), t a tuple -/
theorem list_extend_tup (l : Addr) (items : Array Value) (n : Nat) (b : Addr) (dd : Option Addr) (sl : Array (Option Value)) (items2 : Array Value) (n2 : Nat) (hs0 : ¬(!items.isEmpty && Builtin.List.listTooLong (items.size + items2.size)) = true) (hs1 : items.size ≤ sizeLine) (hs2 : items.size + items2.size ≤ sizeLine + 1) :
    Meets (Builtin.«list.extend» ⟨[.ref l, .ref b], []⟩) (fun _ R s => s.heap.get? l = some { cls := .type "list", dict := none, data := .seq items n, slots := #[] } ∧ s.heap.get? b = some { cls := .type "tuple", dict := dd, data := .seq items2 n2, slots := sl } ∧ R (.ok (.ret Value.none)) { s with heap := s.heap.update l (Obj.mapSeq fun x => x ++ items2), toks := s.toks }) :=
  .of_wp fun prog w A R s h => by
    obtain ⟨hp, g, d, tk, os⟩ := s; obtain ⟨hl, hb, h⟩ := h
    have f1 := AutoSeq1.idx_int; have f2 := AutoSeq1.sub_tuple_tuple; have f3 := AutoSeq1.sub_list_list; have f4 := AutoSeq1.sub_tuple_list; have f5 := AutoSeq1.sub_list_tuple
    have hz' : (items ++ items2).size ≤ sizeLine + 1 := by rw [Array.size_append]; exact hs2
    wp_walk using (wpAny_updateSeq hl rfl (hz := hs1) (_hz' := hz')), wpAny_loadPart' hl, wpAny_loadPart' hb; exact ⟨_, rfl, h⟩
section
variable {X : Cx}
def rExtT (K : PySem.W.Frag) : V → List V → Hp → VK → Prop := fun x vs H Q => ∃ l b xs zs, x = .ref l ∧ vs = [.ref b] ∧ H l = some (.lst xs) ∧ SqT K H b zs ∧ xs.length + zs.length ≤ sizeLine ∧ Q .non (upd H l (.lst (xs ++ zs)))
theorem mt_extT : MtM X "list.extend" (rExtT X.K) := by
  intro pins s σ H x vs v us Q I rx rv h
  obtain ⟨l, b, xs, zs, rfl, rfl, hH, hB, hz, q⟩ := h
  cases rx
  obtain ⟨u, rfl, ru⟩ := rv.one
  cases ru
  obtain ⟨z, its, n, r, hl, e⟩ := I.lstM hH
  obtain ⟨its2, r2, ⟨o, ho, hc, n2, hd⟩, hz2⟩ := I.tuple hB
  obtain ⟨oc, od, dt, sl⟩ := o
  simp only at hc hd
  subst hc hd
  have hl2 := r2.length
  have hsz : its.toArray.size + its2.toArray.size ≤ sizeLine := by rw [List.size_toArray, List.size_toArray]; omega
  have hlong : ¬ (!its.toArray.isEmpty && Builtin.List.listTooLong (its.toArray.size + its2.toArray.size)) = true := by
    rw [notLongL hsz, Bool.and_false]
    exact Bool.false_ne_true
  refine call_meets F.slot_list_extend ⟨_, e, rfl⟩ F.entry_list_extend (F.args_list_extend_2 _ _)
    (list_extend_tup l its.toArray n b od sl its2.toArray n2 hlong (by rw [List.size_toArray]; omega) (by omega)) ⟨e, ho, ?_⟩
  refine ⟨.non, _, I.lset (its' := its ++ its2) hH e (by simp) (r.append r2) ?_, rfl, q⟩
  rw [List.length_append]
  omega
end
/-! ### del xs[a:] -/
theorem drop_tail (its : List Value) (a : Nat) (h : a ≤ its.length) :
    (its.toArray.toList.zipIdx.filterMap fun (p : Value × Nat) => if (decide ((a : Int) ≤ (p.2 : Int)) && decide ((p.2 : Int) < (its.toArray.size : Int)) && ((p.2 : Int) - a) % 1 == 0) = true then none else some p.1).toArray = (its.take a).toArray := by
  congr 1
  rw [List.toList_toArray, List.size_toArray]
  have key : ∀ (l : List Value) (k : Nat), k + l.length ≤ its.length → (l.zipIdx k).filterMap (fun (p : Value × Nat) => if (decide ((a : Int) ≤ (p.2 : Int)) && decide ((p.2 : Int) < (its.length : Int)) && ((p.2 : Int) - a) % 1 == 0) = true then none else some p.1) = l.take (a - k) := by
    intro l
    induction l with
    | nil => intro k _; simp
    | cons x r ih =>
      intro k hk
      rw [List.length_cons] at hk
      rw [List.zipIdx_cons, List.filterMap_cons, ih (k + 1) (by omega)]
      have h1 : ((k : Int) - a) % 1 = 0 := by omega
      have h2 : ((k : Int) < (its.length : Int)) := by omega
      by_cases c : a ≤ k
      · have c' : ((a : Int) ≤ (k : Int)) := by omega
        have e0 : a - k = 0 := by omega
        have e1 : a - (k + 1) = 0 := by omega
        simp [h1, h2, c', e0, e1]
      · have c' : ¬ ((a : Int) ≤ (k : Int)) := by omega
        have e0 : a - k = (a - (k + 1)) + 1 := by omega
        simp [c', e0]
  have q := key its 0 (by omega)
  simpa using q
section
variable {prog : Program} {w : World} {A : Around} {E : Value → Shared → Prop} {s : Shared}
theorem bounds_end {a n : Nat} (h : a ≤ n) : sliceBounds (some (a : Int)) none none n = ((a : Int), (n : Int), 1) := by
  simp only [sliceBounds, Option.getD_none]
  have h1 : ¬ ((a : Int) < 0) := by omega
  simp only [h1, if_false, show (1 : Int) > 0 by decide, if_true]
  congr 1
  omega
theorem delItem_slice {l sl : Addr} {its : List Value} {n : Nat} {vl : Value} {a : Nat} {Q : Unit → Shared → Prop}
    (e : s.heap.get? l = some { cls := .type "list", data := .seq its.toArray n }) (hs : s.heap.IsSliceOf sl vl .none .none) (pl : IsPart vl (some (a : Int))) (ha : a ≤ its.length) (hsz : its.toArray.size ≤ sizeLine)
    (h : ∀ g : Array Value → Array Value, g its.toArray = (its.take a).toArray → Q () { s with heap := s.heap.update l (Obj.mapSeq g) }) :
    wpAny (model prog w) A (delItem (.ref l) (.ref sl)) Q E s := by
  have hl : s.heap.IsList l its.toArray := PySem.IsL.isList e
  obtain ⟨os, hos, hcs, hds⟩ := id hs
  have hTs : s.TypeIs (.ref sl) "slice" := ⟨os, hos, hcs⟩
  have hstep : ¬ ((rawPart none == rawInt 0) = true) := Bool.false_ne_true
  refine wpAny_delItem_slot hl.typeIs (by decide) F.slot_list_delitem (wpAny_call_entry F.slot_list_delitem hl.typeIs F.entry_list_delitem ?_ (F.args_list_delitem_2 _ _))
  show wpAny _ _ (Builtin.List.listSubscript? (.ref sl) >>= _) _ _ s
  refine wpAny_bind ?_
  unfold Builtin.List.listSubscript?
  refine wpAny_bind (wpAny_specialOf hTs slice_no_index ?_)
  simp only [Option.isNone_none, if_true]
  refine wpAny_pure ?_
  show wpAny _ _ (typeOf (.ref sl) >>= _) _ _ s
  refine wpAny_bind (wpAny_typeOf hTs ?_)
  first
    | rw [if_neg (by decide)]
    | refine PySem.W.KFB.if_not (by decide) ?_
  rw [listSliceParts_eq]
  refine wpAny_bind (wpAny_bind (wpAny_field hos hds (x := .none) rfl (wpAny_bind (wpAny_listPart .none ?_))))
  rw [if_neg hstep]
  refine wpAny_bind (wpAny_field hos hds (x := vl) rfl (wpAny_bind (wpAny_listPart pl ?_)))
  refine wpAny_bind (wpAny_field hos hds (x := .none) rfl (wpAny_bind (wpAny_listPart .none (wpAny_pure ?_))))
  refine wpAny_bind (m := Builtin.List.listItems (.ref l)) ?_
  unfold Builtin.List.listItems
  refine wpAny_bind (wpAny_seqItems e rfl (wpAny_pure ?_))
  refine wpAny_bind (wpAny_of_eq ((sliceIndices_raw (some (a : Int)) none none its.toArray.size (by simp)).trans (congrArg (pure : Int × Int × Int → Sem (Int × Int × Int)) (bounds_end (by rw [List.size_toArray]; exact ha)))) ?_)
  refine wpAny_bind (wpAny_rule ?_)
  refine wpAny_bind (wpAny_updateSeq (hz := hsz) (_hz' := ?hz) e rfl ?main)
  case hz =>
    refine Nat.le_trans (Nat.le_of_eq (congrArg Array.size (drop_tail its a ha))) ?_
    rw [List.size_toArray, List.length_take]
    rw [List.size_toArray] at hsz
    omega
  case main =>
    refine wpAny_bind (wpAny_letGo ?_)
    refine wpAny_pure ⟨.none, rfl, h _ ?_⟩
    exact drop_tail its a ha
end
section
variable {X : Cx}
/-- del xs[a:] of a list -/
def tDelTail (to : TE) (tl : TO) : TS := fun D σ H => to σ H fun x H1 => tl σ H1 fun y H2 => ∃ (l : Addr) (xs : List V) (a : Nat), x = .ref l ∧ y = some (a : Int) ∧ H2 l = some (.lst xs) ∧ a ≤ xs.length ∧ D.nx σ (upd H2 l (.lst (xs.take a)))
theorem ps_delTail {o : Expr} {lo : Option Expr} {to : TE} {tl : TO} {tpos p2 pos : Pos} (ho : PE X o to) (hl : PO X lo tl) : PS X (.Delete [.Subscript o (.Slice lo none none p2) tpos] pos) (tDelTail to tl) := by
  refine ⟨fun pins s σ H D I h => ?_⟩
  refine wpAny_Delete (wpAny_deleteEach_cons (wpAny_delete_Subscript (thn (ho.run pins s σ H _ I h) fun u s1 ⟨x, H1, I1, rx, q1⟩ => wpAny_Slice (thn (hl.run pins s1 σ H1 _ I1 q1) fun vl s2 ⟨l, H2, I2, pl, q2⟩ => ?_))))
  rw [evalPart_none]
  refine wpAny_pure ?_
  refine wpAny_pure ?_
  obtain ⟨ll, xs, a, ex, ey, hH, ha, q2⟩ := q2
  subst ex
  subst ey
  cases (show u = Value.ref ll from rx)
  have I4 : Inv X pins σ H2 { s2 with heap := s2.heap.push { cls := .type "slice", data := .fields #[vl, .none, .none] } } := I2.kept (t' := s2.toks) fun b ob q => Heap.get?_push_of_some _ q
  obtain ⟨z, its, n, r, hl', e⟩ := I4.lstM hH
  refine delItem_slice (a := a) e (Heap.IsSliceOf.new ..) pl (by omega) (by rw [List.size_toArray]; omega) fun g hg => wpAny_deleteEach_nil ⟨σ, _, I4.lset (its' := its.take a) (t' := s2.toks) hH e hg (r.take a) ?_, q2⟩
  rw [List.length_take]
  omega
end
end KT

namespace S4
open PySem PySem.Spec PyProof.Rows L2
open PySem.W (Frag)
/-! ### the text by places -/
def top (i : Nat) : Stmt := PySem.Challenge.pw_phrasejoins_k42_whole_steps_known_by_nam.main.body.getD i (.Pass ⟨0, 0, 0, 0⟩)
abbrev sNodesIn : Stmt := top 9
abbrev sFromInside : Stmt := top 10
abbrev sIsWord : Stmt := top 13
abbrev sIsCount : Stmt := top 14
abbrev sIsSigned : Stmt := top 17
abbrev sIsKind : Stmt := top 18
abbrev sCheckKind : Stmt := top 19
abbrev sHasSign : Stmt := top 20
abbrev sOver : Stmt := top 22
abbrev sUnder : Stmt := top 23
abbrev sRaising : Stmt := top 24
abbrev sComposedOver : Stmt := top 25
abbrev sComposedUnder : Stmt := top 26
abbrev sComposing : Stmt := top 27
abbrev sDividing : Stmt := top 28
abbrev sSwapping : Stmt := top 29
abbrev sParting : Stmt := top 30
abbrev sPacking : Stmt := top 31
abbrev sAreKinds : Stmt := top 33
abbrev sIsRow : Stmt := top 34
abbrev sCheckRow : Stmt := top 35
abbrev sCheckAsked : Stmt := top 36
abbrev sPartsBegin : Stmt := top 40
abbrev sPartsOfKnot : Stmt := top 41
abbrev sHasForm : Stmt := top 42
abbrev sAreAllKnots : Stmt := top 43
abbrev sFoldedKnots : Stmt := top 44
abbrev sTellIs : Stmt := top 45
abbrev sTellOverMade : Stmt := top 46
abbrev sTellUnderMade : Stmt := top 47
abbrev sTellThenMade : Stmt := top 48
abbrev sTellOverUsed : Stmt := top 49
abbrev sTellUnderUsed : Stmt := top 50
abbrev sTellThenUsed : Stmt := top 51
abbrev sTellCut : Stmt := top 52
abbrev sTell : Stmt := top 54
abbrev sTellingOf : Stmt := top 55
abbrev sToldBy : Stmt := top 57
abbrev sIsDerivationOf : Stmt := top 58
abbrev sCutIn : Stmt := top 59
abbrev sLPurse : Stmt := top 61
abbrev sLMixed : Stmt := top 62
abbrev sLDraw : Stmt := top 63
abbrev sLOneOf : Stmt := top 64
abbrev sLSame : Stmt := top 65
abbrev sLExact : Stmt := top 66
abbrev sLWord : Stmt := top 67
abbrev sLWords : Stmt := top 68
abbrev sLKind : Stmt := top 69
abbrev sLSomeKind : Stmt := top 70
abbrev sLIsKind : Stmt := top 71
abbrev sLUsed : Stmt := top 72
abbrev sLTold : Stmt := top 73
abbrev sLNamed : Stmt := top 74
abbrev sLCases : Stmt := top 75
abbrev sLPlainSome : Stmt := top 76
abbrev sLCaseRight : Stmt := top 77
abbrev sLRoundRight : Stmt := top 78
abbrev sLaw : Stmt := top 79
abbrev nNodesIn : List Str := ["root", "parts_of", "waiting", "nodes", "node"]
abbrev pNodesIn : List Str := ["root", "parts_of"]
theorem scNodesIn : FnScope nNodesIn pNodesIn (defScope sNodesIn) := ⟨rfl, rfl, rfl, by decide +kernel, rfl, by decide +kernel, by decide +kernel⟩
abbrev nFromInside : List Str := ["root", "parts_of", "at_node", "came", "node", "begin", "parts"]
abbrev pFromInside : List Str := ["root", "parts_of", "at_node"]
theorem scFromInside : FnScope nFromInside pFromInside (defScope sFromInside) := ⟨rfl, rfl, rfl, by decide +kernel, rfl, by decide +kernel, by decide +kernel⟩
abbrev nIsWord : List Str := ["value", "letter"]
abbrev pIsWord : List Str := ["value"]
theorem scIsWord : FnScope nIsWord pIsWord (defScope sIsWord) := ⟨rfl, rfl, rfl, by decide +kernel, rfl, by decide +kernel, by decide +kernel⟩
abbrev nIsCount : List Str := ["value"]
abbrev pIsCount : List Str := ["value"]
theorem scIsCount : FnScope nIsCount pIsCount (defScope sIsCount) := ⟨rfl, rfl, rfl, by decide +kernel, rfl, by decide +kernel, by decide +kernel⟩
abbrev nIsSigned : List Str := ["value"]
abbrev pIsSigned : List Str := ["value"]
theorem scIsSigned : FnScope nIsSigned pIsSigned (defScope sIsSigned) := ⟨rfl, rfl, rfl, by decide +kernel, rfl, by decide +kernel, by decide +kernel⟩
abbrev nIsKind : List Str := ["value", "waiting", "part"]
abbrev pIsKind : List Str := ["value"]
theorem scIsKind : FnScope nIsKind pIsKind (defScope sIsKind) := ⟨rfl, rfl, rfl, by decide +kernel, rfl, by decide +kernel, by decide +kernel⟩
abbrev nCheckKind : List Str := ["kind"]
abbrev pCheckKind : List Str := ["kind"]
theorem scCheckKind : FnScope nCheckKind pCheckKind (defScope sCheckKind) := ⟨rfl, rfl, rfl, by decide +kernel, rfl, by decide +kernel, by decide +kernel⟩
abbrev nHasSign : List Str := ["kind", "sign"]
abbrev pHasSign : List Str := ["kind", "sign"]
theorem scHasSign : FnScope nHasSign pHasSign (defScope sHasSign) := ⟨rfl, rfl, rfl, by decide +kernel, rfl, by decide +kernel, by decide +kernel⟩
abbrev nOver : List Str := ["derivation", "kind"]
abbrev pOver : List Str := ["derivation", "kind"]
theorem scOver : FnScope nOver pOver (defScope sOver) := ⟨rfl, rfl, rfl, by decide +kernel, rfl, by decide +kernel, by decide +kernel⟩
abbrev nUnder : List Str := ["derivation", "kind"]
abbrev pUnder : List Str := ["derivation", "kind"]
theorem scUnder : FnScope nUnder pUnder (defScope sUnder) := ⟨rfl, rfl, rfl, by decide +kernel, rfl, by decide +kernel, by decide +kernel⟩
abbrev nRaising : List Str := ["kind", "goal", "word"]
abbrev pRaising : List Str := ["kind", "goal", "word"]
theorem scRaising : FnScope nRaising pRaising (defScope sRaising) := ⟨rfl, rfl, rfl, by decide +kernel, rfl, by decide +kernel, by decide +kernel⟩
abbrev nComposedOver : List Str := ["given", "between", "behind"]
abbrev pComposedOver : List Str := ["given", "between", "behind"]
theorem scComposedOver : FnScope nComposedOver pComposedOver (defScope sComposedOver) := ⟨rfl, rfl, rfl, by decide +kernel, rfl, by decide +kernel, by decide +kernel⟩
abbrev nComposedUnder : List Str := ["ahead", "between", "given"]
abbrev pComposedUnder : List Str := ["ahead", "between", "given"]
theorem scComposedUnder : FnScope nComposedUnder pComposedUnder (defScope sComposedUnder) := ⟨rfl, rfl, rfl, by decide +kernel, rfl, by decide +kernel, by decide +kernel⟩
abbrev nComposing : List Str := ["one", "other"]
abbrev pComposing : List Str := ["one", "other"]
theorem scComposing : FnScope nComposing pComposing (defScope sComposing) := ⟨rfl, rfl, rfl, by decide +kernel, rfl, by decide +kernel, by decide +kernel⟩
abbrev nDividing : List Str := ["kind", "divisor"]
abbrev pDividing : List Str := ["kind", "divisor"]
theorem scDividing : FnScope nDividing pDividing (defScope sDividing) := ⟨rfl, rfl, rfl, by decide +kernel, rfl, by decide +kernel, by decide +kernel⟩
abbrev nSwapping : List Str := ["kind", "_", "ahead", "given", "behind", "used"]
abbrev pSwapping : List Str := ["kind"]
theorem scSwapping : FnScope nSwapping pSwapping (defScope sSwapping) := ⟨rfl, rfl, rfl, by decide +kernel, rfl, by decide +kernel, by decide +kernel⟩
abbrev nParting : List Str := ["kind", "_", "given", "first", "second", "both"]
abbrev pParting : List Str := ["kind"]
theorem scParting : FnScope nParting pParting (defScope sParting) := ⟨rfl, rfl, rfl, by decide +kernel, rfl, by decide +kernel, by decide +kernel⟩
abbrev nPacking : List Str := ["kind", "_", "given", "second", "first", "used"]
abbrev pPacking : List Str := ["kind"]
theorem scPacking : FnScope nPacking pPacking (defScope sPacking) := ⟨rfl, rfl, rfl, by decide +kernel, rfl, by decide +kernel, by decide +kernel⟩
abbrev nAreKinds : List Str := ["value", "kind"]
abbrev pAreKinds : List Str := ["value"]
theorem scAreKinds : FnScope nAreKinds pAreKinds (defScope sAreKinds) := ⟨rfl, rfl, rfl, by decide +kernel, rfl, by decide +kernel, by decide +kernel⟩
abbrev nIsRow : List Str := ["value"]
abbrev pIsRow : List Str := ["value"]
theorem scIsRow : FnScope nIsRow pIsRow (defScope sIsRow) := ⟨rfl, rfl, rfl, by decide +kernel, rfl, by decide +kernel, by decide +kernel⟩
abbrev nCheckRow : List Str := ["row"]
abbrev pCheckRow : List Str := ["row"]
theorem scCheckRow : FnScope nCheckRow pCheckRow (defScope sCheckRow) := ⟨rfl, rfl, rfl, by decide +kernel, rfl, by decide +kernel, by decide +kernel⟩
abbrev nCheckAsked : List Str := ["row", "goal"]
abbrev pCheckAsked : List Str := ["row", "goal"]
theorem scCheckAsked : FnScope nCheckAsked pCheckAsked (defScope sCheckAsked) := ⟨rfl, rfl, rfl, by decide +kernel, rfl, by decide +kernel, by decide +kernel⟩
abbrev nPartsBegin : List Str := ["name"]
abbrev pPartsBegin : List Str := ["name"]
theorem scPartsBegin : FnScope nPartsBegin pPartsBegin (defScope sPartsBegin) := ⟨rfl, rfl, rfl, by decide +kernel, rfl, by decide +kernel, by decide +kernel⟩
abbrev nPartsOfKnot : List Str := ["knot"]
abbrev pPartsOfKnot : List Str := ["knot"]
theorem scPartsOfKnot : FnScope nPartsOfKnot pPartsOfKnot (defScope sPartsOfKnot) := ⟨rfl, rfl, rfl, by decide +kernel, rfl, by decide +kernel, by decide +kernel⟩
abbrev nHasForm : List Str := ["value", "name"]
abbrev pHasForm : List Str := ["value"]
theorem scHasForm : FnScope nHasForm pHasForm (defScope sHasForm) := ⟨rfl, rfl, rfl, by decide +kernel, rfl, by decide +kernel, by decide +kernel⟩
abbrev nAreAllKnots : List Str := ["value", "waiting", "knot"]
abbrev pAreAllKnots : List Str := ["value"]
theorem scAreAllKnots : FnScope nAreAllKnots pAreAllKnots (defScope sAreAllKnots) := ⟨rfl, rfl, rfl, by decide +kernel, rfl, by decide +kernel, by decide +kernel⟩
abbrev nFoldedKnots : List Str := ["derivation", "at_knot"]
abbrev pFoldedKnots : List Str := ["derivation", "at_knot"]
theorem scFoldedKnots : FnScope nFoldedKnots pFoldedKnots (defScope sFoldedKnots) := ⟨rfl, rfl, rfl, by decide +kernel, rfl, by decide +kernel, by decide +kernel⟩
abbrev nTellIs : List Str := ["knot", "told"]
abbrev pTellIs : List Str := ["knot", "told"]
theorem scTellIs : FnScope nTellIs pTellIs (defScope sTellIs) := ⟨rfl, rfl, rfl, by decide +kernel, rfl, by decide +kernel, by decide +kernel⟩
abbrev nTellOverMade : List Str := ["knot", "told", "row", "goal"]
abbrev pTellOverMade : List Str := ["knot", "told"]
theorem scTellOverMade : FnScope nTellOverMade pTellOverMade (defScope sTellOverMade) := ⟨rfl, rfl, rfl, by decide +kernel, rfl, by decide +kernel, by decide +kernel⟩
abbrev nTellUnderMade : List Str := ["knot", "told", "row", "goal"]
abbrev pTellUnderMade : List Str := ["knot", "told"]
theorem scTellUnderMade : FnScope nTellUnderMade pTellUnderMade (defScope sTellUnderMade) := ⟨rfl, rfl, rfl, by decide +kernel, rfl, by decide +kernel, by decide +kernel⟩
abbrev nTellThenMade : List Str := ["knot", "told", "row", "goal", "later_row", "later_goal"]
abbrev pTellThenMade : List Str := ["knot", "told"]
theorem scTellThenMade : FnScope nTellThenMade pTellThenMade (defScope sTellThenMade) := ⟨rfl, rfl, rfl, by decide +kernel, rfl, by decide +kernel, by decide +kernel⟩
abbrev nTellOverUsed : List Str := ["knot", "told", "place", "taken", "wanted", "row", "goal"]
abbrev pTellOverUsed : List Str := ["knot", "told"]
theorem scTellOverUsed : FnScope nTellOverUsed pTellOverUsed (defScope sTellOverUsed) := ⟨rfl, rfl, rfl, by decide +kernel, rfl, by decide +kernel, by decide +kernel⟩
abbrev nTellUnderUsed : List Str := ["knot", "told", "place", "taken", "wanted", "row", "goal"]
abbrev pTellUnderUsed : List Str := ["knot", "told"]
theorem scTellUnderUsed : FnScope nTellUnderUsed pTellUnderUsed (defScope sTellUnderUsed) := ⟨rfl, rfl, rfl, by decide +kernel, rfl, by decide +kernel, by decide +kernel⟩
abbrev nTellThenUsed : List Str := ["knot", "told", "place", "row", "goal"]
abbrev pTellThenUsed : List Str := ["knot", "told"]
theorem scTellThenUsed : FnScope nTellThenUsed pTellThenUsed (defScope sTellThenUsed) := ⟨rfl, rfl, rfl, by decide +kernel, rfl, by decide +kernel, by decide +kernel⟩
abbrev nTellCut : List Str := ["knot", "told", "place", "taken", "wanted", "row", "goal"]
abbrev pTellCut : List Str := ["knot", "told"]
theorem scTellCut : FnScope nTellCut pTellCut (defScope sTellCut) := ⟨rfl, rfl, rfl, by decide +kernel, rfl, by decide +kernel, by decide +kernel⟩
abbrev nTell : List Str := ["knot", "told", "teller"]
abbrev pTell : List Str := ["knot", "told"]
theorem scTell : FnScope nTell pTell (defScope sTell) := ⟨rfl, rfl, rfl, by decide +kernel, rfl, by decide +kernel, by decide +kernel⟩
abbrev nTellingOf : List Str := ["value"]
abbrev pTellingOf : List Str := ["value"]
theorem scTellingOf : FnScope nTellingOf pTellingOf (defScope sTellingOf) := ⟨rfl, rfl, rfl, by decide +kernel, rfl, by decide +kernel, by decide +kernel⟩
abbrev nToldBy : List Str := ["derivation", "told"]
abbrev pToldBy : List Str := ["derivation"]
theorem scToldBy : FnScope nToldBy pToldBy (defScope sToldBy) := ⟨rfl, rfl, rfl, by decide +kernel, rfl, by decide +kernel, by decide +kernel⟩
abbrev nIsDerivationOf : List Str := ["row", "goal", "value"]
abbrev pIsDerivationOf : List Str := ["row", "goal", "value"]
theorem scIsDerivationOf : FnScope nIsDerivationOf pIsDerivationOf (defScope sIsDerivationOf) := ⟨rfl, rfl, rfl, by decide +kernel, rfl, by decide +kernel, by decide +kernel⟩
abbrev nCutIn : List Str := ["one", "other", "place", "goal", "row"]
abbrev pCutIn : List Str := ["one", "other", "place"]
theorem scCutIn : FnScope nCutIn pCutIn (defScope sCutIn) := ⟨rfl, rfl, rfl, by decide +kernel, rfl, by decide +kernel, by decide +kernel⟩
abbrev nLPurse : List Str := ["script", "at", "seed"]
abbrev pLPurse : List Str := ["script", "at"]
theorem scLPurse : FnScope nLPurse pLPurse (defScope sLPurse) := ⟨rfl, rfl, rfl, by decide +kernel, rfl, by decide +kernel, by decide +kernel⟩
abbrev nLMixed : List Str := ["seed", "spin", "at", "mixed"]
abbrev pLMixed : List Str := ["seed", "spin", "at"]
theorem scLMixed : FnScope nLMixed pLMixed (defScope sLMixed) := ⟨rfl, rfl, rfl, by decide +kernel, rfl, by decide +kernel, by decide +kernel⟩
abbrev nLDraw : List Str := ["purse", "many", "drawn", "found", "piece"]
abbrev pLDraw : List Str := ["purse", "many"]
theorem scLDraw : FnScope nLDraw pLDraw (defScope sLDraw) := ⟨rfl, rfl, rfl, by decide +kernel, rfl, by decide +kernel, by decide +kernel⟩
abbrev nLOneOf : List Str := ["purse", "some"]
abbrev pLOneOf : List Str := ["purse", "some"]
theorem scLOneOf : FnScope nLOneOf pLOneOf (defScope sLOneOf) := ⟨rfl, rfl, rfl, by decide +kernel, rfl, by decide +kernel, by decide +kernel⟩
abbrev nLSame : List Str := ["thing", "item", "key"]
abbrev pLSame : List Str := ["thing"]
theorem scLSame : FnScope nLSame pLSame (defScope sLSame) := ⟨rfl, rfl, rfl, by decide +kernel, rfl, by decide +kernel, by decide +kernel⟩
abbrev nLExact : List Str := ["mine", "theirs", "alike", "a", "b", "key"]
abbrev pLExact : List Str := ["mine", "theirs"]
theorem scLExact : FnScope nLExact pLExact (defScope sLExact) := ⟨rfl, rfl, rfl, by decide +kernel, rfl, by decide +kernel, by decide +kernel⟩
abbrev nLWord : List Str := ["purse", "size", "spin"]
abbrev pLWord : List Str := ["purse"]
theorem scLWord : FnScope nLWord pLWord (defScope sLWord) := ⟨rfl, rfl, rfl, by decide +kernel, rfl, by decide +kernel, by decide +kernel⟩
abbrev nLWords : List Str := ["purse", "many", "base", "near", "spot", "found", "spin", "word", "letter"]
abbrev pLWords : List Str := ["purse", "many"]
theorem scLWords : FnScope nLWords pLWords (defScope sLWords) := ⟨rfl, rfl, rfl, by decide +kernel, rfl, by decide +kernel, by decide +kernel⟩
abbrev nLKind : List Str := ["purse", "plains", "many", "signs", "first"]
abbrev pLKind : List Str := ["purse", "plains", "many", "signs"]
theorem scLKind : FnScope nLKind pLKind (defScope sLKind) := ⟨rfl, rfl, rfl, by decide +kernel, rfl, by decide +kernel, by decide +kernel⟩
abbrev nLSomeKind : List Str := ["purse", "plains", "most", "signs"]
abbrev pLSomeKind : List Str := ["purse", "plains", "most", "signs"]
theorem scLSomeKind : FnScope nLSomeKind pLSomeKind (defScope sLSomeKind) := ⟨rfl, rfl, rfl, by decide +kernel, rfl, by decide +kernel, by decide +kernel⟩
abbrev nLIsKind : List Str := ["value", "sign"]
abbrev pLIsKind : List Str := ["value"]
theorem scLIsKind : FnScope nLIsKind pLIsKind (defScope sLIsKind) := ⟨rfl, rfl, rfl, by decide +kernel, rfl, by decide +kernel, by decide +kernel⟩
abbrev nLUsed : List Str := ["word", "row", "at", "stretch", "late"]
abbrev pLUsed : List Str := ["word", "row", "at", "stretch", "late"]
theorem scLUsed : FnScope nLUsed pLUsed (defScope sLUsed) := ⟨rfl, rfl, rfl, by decide +kernel, rfl, by decide +kernel, by decide +kernel⟩
abbrev nLTold : List Str := ["value", "sizes", "word", "parts", "row", "goal", "at", "late", "part"]
abbrev pLTold : List Str := ["value"]
theorem scLTold : FnScope nLTold pLTold (defScope sLTold) := ⟨rfl, rfl, rfl, by decide +kernel, rfl, by decide +kernel, by decide +kernel⟩
abbrev nLNamed : List Str := ["door", "args"]
abbrev pLNamed : List Str := ["door", "args"]
theorem scLNamed : FnScope nLNamed pLNamed (defScope sLNamed) := ⟨rfl, rfl, rfl, by decide +kernel, rfl, by decide +kernel, by decide +kernel⟩
abbrev nLCases : List Str := ["a", "b", "c", "some", "left", "right", "bound", "apart"]
abbrev pLCases : List Str := ["a", "b", "c"]
theorem scLCases : FnScope nLCases pLCases (defScope sLCases) := ⟨rfl, rfl, rfl, by decide +kernel, rfl, by decide +kernel, by decide +kernel⟩
abbrev nLPlainSome : List Str := ["purse", "many", "found", "late"]
abbrev pLPlainSome : List Str := ["purse", "many"]
theorem scLPlainSome : FnScope nLPlainSome pLPlainSome (defScope sLPlainSome) := ⟨rfl, rfl, rfl, by decide +kernel, rfl, by decide +kernel, by decide +kernel⟩
abbrev nLCaseRight : List Str := ["case", "door", "args", "row", "goal", "kept", "told", "again"]
abbrev pLCaseRight : List Str := ["case"]
theorem scLCaseRight : FnScope nLCaseRight pLCaseRight (defScope sLCaseRight) := ⟨rfl, rfl, rfl, by decide +kernel, rfl, by decide +kernel, by decide +kernel⟩
abbrev nLRoundRight : List Str := ["a", "b", "c", "left", "bound", "first", "second", "kind", "both", "due"]
abbrev pLRoundRight : List Str := ["a", "b", "c"]
theorem scLRoundRight : FnScope nLRoundRight pLRoundRight (defScope sLRoundRight) := ⟨rfl, rfl, rfl, by decide +kernel, rfl, by decide +kernel, by decide +kernel⟩
abbrev nLaw : List Str := ["script", "purse", "plains", "turn", "some", "a", "b", "c", "place", "case"]
abbrev pLaw : List Str := ["script"]
theorem scLaw : FnScope nLaw pLaw (defScope sLaw) := ⟨rfl, rfl, rfl, by decide +kernel, rfl, by decide +kernel, by decide +kernel⟩
/-- a def of the top, as it stands behind it -/
structure Top (K : Frag) (mg : Str → Option Value) (x : Str) (st : Stmt) (ps : List Str) (f : Addr) (fd : FuncData) : Prop where
  F : Fun K x x st f fd
  g : mg x = some (.ref f)
  b : Binds K fd ps []
/-- the built-in names that are asked for -/
structure Blt (mg : Str → Option Value) : Prop where
  sum : mg "sum" = none
  int : mg "int" = none
  max : mg "max" = none
  min : mg "min" = none
  len : mg "len" = none
  range : mg "range" = none
  isi : mg "isinstance" = none
  list : mg "list" = none
  dict : mg "dict" = none
  tuple : mg "tuple" = none
  all : mg "all" = none
  str_ : mg "str" = none
  bool_ : mg "bool" = none
  sorted : mg "sorted" = none
  set : mg "set" = none
  reversed : mg "reversed" = none
  zip : mg "zip" = none
end S4

namespace S4
open PySem PySem.Spec PyProof.Rows L2
open PySem.W (Frag)
open TL (joinL tl tl_join)
section
variable {X : Cx}
/-- i ** j of great numbers -/
theorem op_powB : OpR X (binaryOp .Pow) (rI (fun i j => 0 ≤ j ∧ (Builtin.Int.intBits i : Int) * j ≤ 2 ^ 27) fun i j => .int (i ^ j.toNat)) :=
  opI fun i j t u s Q E c q => PyProof.Rows.pow_int c.1 c.2 q
end
section
variable {P : Program} {w : World} {K : Frag} {mg : Str → Option Value} {base : Heap}
/-! ### draws -/
/-- a purse at a, of which at most n draws were made -/
def PurseAt (H : Hp) (a : Addr) (n : Nat) : Prop := ∃ p0 p1 p2 p3 : Int, H a = some (.lst [.int p0, .int p1, .int p2, .int p3]) ∧ 0 ≤ p0 ∧ 0 ≤ p1 ∧ p1 < 2147483629 ∧ 0 ≤ p2 ∧ p2 ≤ n ∧ 0 ≤ p3 ∧ p3 ≤ 63
def spMixed : Sp := fun vs H Q _ => ∃ seed spin at_ : Int, vs = [.int seed, .int spin, .int at_] ∧ 0 ≤ seed ∧ seed < 2147483629 ∧ 0 ≤ spin ∧ spin ≤ 1099511627776 ∧ 0 ≤ at_ ∧ at_ ≤ 63 ∧ ∀ m : Int, 0 ≤ m → m < 2147483587 → Q (.int m) H
theorem ok_mixed {f : Addr} {fd : FuncData} (T : Top K mg "_law_mixed" sLMixed ["seed", "spin", "at"] f fd) (B : Blt mg) : FnOk P w K mg base CX0 1 f fd ["seed", "spin", "at"] spMixed := by
  refine T.F.ok scLMixed (fun vs H Q E h => ?_) (fun cdv A outer s H vs Q E hr h => ?_)
  · obtain ⟨_, _, _, rfl, _⟩ := h
    rfl
  · obtain ⟨seed, spin, at_, rfl, h0, h1, h2, h3, h4, h5, k⟩ := h
    refine ⟨_, (pss_cons (ps_set (i := 3) scLMixed.nd rfl (Or.inl rfl) (pe_op op_add (pe_op op_mul (pv 0) pe_int) (pe_op op_mul (pe_op op_mul pe_int (pv 1)) (pv 1))))
      (pss_cons (ps_set (i := 3) scLMixed.nd rfl (Or.inl rfl) (pe_op op_mod (pe_callTy call_int1 (by rfl) B.int (by decide +kernel) (pa_cons (pe_op op_add (pe_op op_add (pv 3) (pe_op op_mul pe_int (pv 2))) (pv 1)) pa_nil)) pe_int))
      (pss_cons (ps_set (i := 3) scLMixed.nd rfl (Or.inl rfl) (pe_op op_mod (pe_callTy call_int1 (by rfl) B.int (by decide +kernel) (pa_cons (pe_op op_add (pe_op op_mul (pv 3) (pv 3)) pe_int) pa_nil)) pe_int))
      (pss_one (ps_ret (pe_op op_mod (pe_callTy call_int1 (by rfl) B.int (by decide +kernel) (pa_cons (pe_op op_mul (pv 3) pe_int) pa_nil)) pe_int)))))), ?_⟩
    refine ⟨_, rfl, _, _, rfl, rfl, .inl ⟨by omega, by omega⟩, _, rfl, _, _, rfl, rfl, .inl ⟨by decide, by decide⟩, _, rfl, _, _, rfl, rfl, .inr ⟨by omega, by omega⟩, _, _, rfl, rfl, ?_⟩
    refine ⟨_, rfl, _, rfl, _, _, rfl, rfl, .inl ⟨by decide, by decide⟩, _, _, rfl, rfl, _, rfl, _, _, rfl, rfl, .inl ⟨_, rfl, _, _, rfl, rfl, (by show (0 : Int) < 2147483647; decide), ?_⟩⟩
    generalize e1 : (seed * 69069 + 104729 * spin * spin + 7919 * at_ + spin) % 2147483647 = m1
    have b1 : 0 ≤ m1 ∧ m1 < 2147483647 := by omega
    refine ⟨_, rfl, _, rfl, _, _, rfl, rfl, .inl ⟨by omega, by omega⟩, _, _, rfl, rfl, .inl ⟨_, rfl, _, _, rfl, rfl, (by show (0 : Int) < 2147483629; decide), ?_⟩⟩
    generalize e2 : (m1 * m1 + 40503) % 2147483629 = m2
    have b2 : 0 ≤ m2 ∧ m2 < 2147483629 := by omega
    refine ⟨_, rfl, _, _, rfl, rfl, .inl ⟨by omega, by omega⟩, .inl ⟨_, rfl, _, _, rfl, rfl, (by show (0 : Int) < 2147483587; decide), ?_⟩⟩
    exact k _ (by omega) (by omega)
def spDraw : Sp := fun vs H Q _ => ∃ (a : Addr) (n : Nat) (many : Int), vs = [.ref a, .int many] ∧ PurseAt H a n ∧ n ≤ 1000000000000 ∧ 1 ≤ many ∧ many < 1048576 ∧
  ∀ (d : Int) (H' : Hp), 0 ≤ d → d < many → (∀ b, b ≠ a → H' b = H b) → PurseAt H' a (n + 1) → Q (.int d) H'
theorem bits_small {m : Int} (h1 : 1 ≤ m) (h2 : m < 1048576) : (1 : Int) + ((Builtin.Int.intBits m : Nat) : Int) / 28 = 1 := by
  have b : Builtin.Int.intBits m ≤ 20 := by
    unfold Builtin.Int.intBits
    split
    · omega
    · have e : m.natAbs < 2 ^ 20 := by
        have : (2 : Nat) ^ 20 = 1048576 := by decide
        omega
      have := (Nat.log2_lt (by omega)).mpr e
      omega
  omega
theorem ok_draw {f fm : Addr} {fd fdm : FuncData} (T : Top K mg "_law_draw" sLDraw ["purse", "many"] f fd) (TM : Top K mg "_law_mixed" sLMixed ["seed", "spin", "at"] fm fdm) (B : Blt mg) :
    FnOk P w K mg base CX0 2 f fd ["purse", "many"] spDraw := by
  have GM : FnOk P w K mg base CX0 1 fm fdm ["seed", "spin", "at"] spMixed := ok_mixed TM B
  refine T.F.ok scLDraw (fun vs H Q E h => ?_) (fun cdv A outer s H vs Q E hr h => ?_)
  · obtain ⟨_, _, _, rfl, _⟩ := h
    rfl
  · obtain ⟨a, n, many, rfl, ⟨p0, p1, p2, p3, hp, h0, h1, h1', h2, h2', h3, h3'⟩, hn, hm1, hm2, k⟩ := h
    refine ⟨_, (pss_cons (ps_if (pt_cmpR op_gt (pe_ix ix_list (pv 0) pe_int (fun _ _ => rfl)) pe_int (nomark _))
        (pss_cons (ps_set (i := 2) scLDraw.nd rfl (Or.inl rfl) (pe_op op_mod (pe_callTy call_int1 (by rfl) B.int (by decide +kernel) (pa_cons (pe_ix ix_list (pv 0) pe_int (fun _ _ => rfl)) pa_nil)) (pv 1)))
      (pss_cons (ps_asg (pe_op op_fdiv (pe_ix ix_list (pv 0) pe_int (fun _ _ => rfl)) (pv 1)) (pg_sub (pv 0) pe_int set_list))
      (pss_one (ps_ret (pv 2))))) pss_nil)
      (pss_cons (ps_set (i := 3) scLDraw.nd rfl (Or.inl rfl) pe_int)
      (pss_cons (ps_for PassesOwn.never rfl (pi_range1 (by rfl) B.range (pa_cons (pe_op op_add pe_int (pe_op op_fdiv (pe_bits (pv 1)) pe_int)) pa_nil)) (pg_name (i := 4) scLDraw.nd rfl (Or.inl rfl))
        (pss_cons (ps_asg (pe_op op_add (pe_ix ix_list (pv 0) pe_int (fun _ _ => rfl)) pe_int) (pg_sub (pv 0) pe_int set_list))
      (pss_one (ps_set (i := 3) scLDraw.nd rfl (Or.inl rfl) (pe_op op_add (pe_op op_mul (pv 3) pe_int) (pe_call GM hr rfl TM.g TM.F.kp TM.b .nil pass0 (pa_cons (pe_ix ix_list (pv 0) pe_int (fun _ _ => rfl)) (pa_cons (pe_ix ix_list (pv 0) pe_int (fun _ _ => rfl)) (pa_cons (pe_ix ix_list (pv 0) pe_int (fun _ _ => rfl)) pa_nil)))))))))
      (pss_one (ps_ret (pe_op op_mod (pe_callTy call_int1 (by rfl) B.int (by decide +kernel) (pa_cons (pv 3) pa_nil)) (pv 1))))))), ?_⟩
    refine ⟨_, rfl, _, _, _, _, rfl, rfl, SqL.of hp, atI_nat (j := 0) rfl, _, _, rfl, rfl, _, rfl, ite2 (fun c => ?_) (fun c => ?_)⟩
    · have c' : 0 < p0 := of_decide_eq_true c
      refine ⟨_, rfl, _, _, _, _, rfl, rfl, SqL.of hp, atI_nat (j := 0) rfl, .inl ⟨_, rfl, _, rfl, _, _, rfl, rfl, (by show 0 < many; omega), ?_⟩⟩
      refine ⟨_, rfl, _, _, _, _, rfl, rfl, SqL.of hp, atI_nat (j := 0) rfl, _, rfl, _, _, rfl, rfl, ⟨by omega, by omega⟩, _, rfl, _, _, _, 0, rfl, rfl, hp, rfl, _, rfl, ?_⟩
      refine k _ _ (Int.emod_nonneg _ (by omega)) (Int.emod_lt_of_pos _ (by omega)) (fun b hb => upd_ne hb) ⟨p0 / many, p1, p2, p3, upd_same, Int.ediv_nonneg h0 (by omega), h1, h1', h2, by omega, h3, h3'⟩
    · refine ⟨_, rfl, _, rfl, _, _, rfl, rfl, ⟨by decide, by decide⟩, _, _, rfl, rfl, _, rfl, ?_, ?_, ?_⟩
      · rw [bits_small hm1 hm2]
        decide
      · rw [bits_small hm1 hm2]
        decide
      rw [bits_small hm1 hm2]
      refine for_range (lo := 0) (n := 1) (fun i σ H' => ∃ (v2 v4 : Option V) (z : Int), σ = [some (.ref a), some (.int many), v2, some (.int z), v4] ∧ (i = 0 → z = 0 ∧ H' = H) ∧ (i = 1 → (∀ b, b ≠ a → H' b = H b) ∧ PurseAt H' a (n + 1)))
        ⟨_, _, 0, rfl, fun _ => ⟨rfl, rfl⟩, fun e => by cases e⟩ ?_ ?_
      · rintro i σ H' hi ⟨v2, v4, z, rfl, hz, _⟩
        obtain rfl : i = 0 := by omega
        obtain ⟨rfl, rfl⟩ := hz rfl
        refine ⟨_, rfl, _, _, _, _, rfl, rfl, SqL.of hp, atI_nat (j := 2) rfl, _, _, rfl, rfl, _, rfl, _, _, _, 2, rfl, rfl, hp, rfl, ?_⟩
        refine ⟨_, rfl, _, _, rfl, rfl, .inl ⟨by decide, by decide⟩, _, rfl, _, _, _, _, rfl, rfl, SqL.of upd_same, atI_nat (j := 1) rfl, _, rfl, _, _, _, _, rfl, rfl, SqL.of upd_same, atI_nat (j := 2) rfl, _, rfl, _, _, _, _, rfl, rfl, SqL.of upd_same, atI_nat (j := 3) rfl, ?_⟩
        refine ⟨_, _, _, rfl, h1, h1', by omega, by omega, h3, h3', fun m m0 m1 => ⟨_, _, rfl, rfl, ?_⟩⟩
        exact ⟨_, _, _, rfl, (fun e => by cases e), fun _ => ⟨fun b hb => upd_ne hb, p0, p1, p2 + 1, p3, upd_same, h0, h1, h1', by omega, by omega, h3, h3'⟩⟩
      · rintro σ H' ⟨v2, v4, z, rfl, _, hz⟩
        obtain ⟨z1, z2⟩ := hz rfl
        exact ⟨_, rfl, .inl ⟨_, rfl, _, rfl, _, _, rfl, rfl, (by show 0 < many; omega), k _ _ (Int.emod_nonneg _ (by omega)) (Int.emod_lt_of_pos _ (by omega)) z1 z2⟩⟩
/-! ### purses -/
theorem cut_ints (ns : List Int) (lo hi : Option Int) : ∃ ms : List Int, cutV (ns.map V.int) lo hi = ms.map V.int := by
  unfold cutV
  exact ⟨_, by rw [List.map_take, List.map_drop]⟩
def spPurse (K : Frag) : Sp := fun vs H Q _ => ∃ (a : Addr) (ns : List Int) (i : Int), vs = [.ref a, .int i] ∧ SqL K H a (ns.map V.int) ∧ 0 ≤ i ∧ i ≤ 63 ∧ ∀ (p : Addr) (H' : Hp), Same H H' → H p = none → PurseAt H' p 0 → Q (.ref p) H'
theorem same_upd {H : Hp} {p : Addr} {o : HO} (h : H p = none) : Same H (upd H p o) := fun b u e => by
  rw [upd_ne (ne_of_none e h)]
  exact e
theorem ok_purse {f : Addr} {fd : FuncData} (T : Top K mg "_law_purse" sLPurse ["script", "at"] f fd) (B : Blt mg) : FnOk P w K mg base CX0 1 f fd ["script", "at"] (spPurse K) := by
  refine T.F.ok scLPurse (fun vs H Q E h => ?_) (fun cdv A outer s H vs Q E hr h => ?_)
  · obtain ⟨_, _, _, rfl, _⟩ := h
    rfl
  · obtain ⟨a, ns, i, rfl, hS, i0, i1, k⟩ := h
    refine ⟨_, (pss_cons (ps_set (i := 2) scLPurse.nd rfl (Or.inl rfl) (pe_callB (cr_sum rfl) (by rfl) B.sum (by decide +kernel) (pa_cons (pe_slice sl_list (pv 0) (po_some (pv 1)) (po_some (pe_op op_add (pv 1) pe_int))) pa_nil)))
      (pss_one (ps_ret (pe_lst (pa_cons (pe_op op_mod (pe_callTy call_int1 (by rfl) B.int (by decide +kernel) (pa_cons (pe_callB (call_max2 rfl) (by rfl) B.max (by decide +kernel) (pa_cons (pe_op op_sub (pv 2) (pe_op op_pow pe_int pe_int)) (pa_cons pe_int pa_nil))) pa_nil)) (pe_op op_powB (pe_op op_pow pe_int pe_int) pe_int)) (pa_cons (pe_op op_mod (pe_callTy call_int1 (by rfl) B.int (by decide +kernel) (pa_cons (pv 2) pa_nil)) pe_int) (pa_cons pe_int (pa_cons (pv 1) pa_nil)))))))), ?_⟩
    obtain ⟨ms, em⟩ := cut_ints ns (some i) (some (i + 1))
    refine ⟨_, rfl, _, rfl, i, rfl, _, rfl, _, _, rfl, rfl, i + 1, rfl, a, _, rfl, hS, fun q hq => ⟨q, ms, rfl, ?_, ?_⟩⟩
    · rw [em]
      exact SqL.of upd_same
    · refine ⟨_, rfl, _, _, rfl, rfl, ⟨by decide, by decide, by decide⟩, _, _, rfl, rfl, _, _, rfl, .inl ⟨_, rfl, _, _, rfl, rfl, ⟨by decide, by decide, by decide⟩, _, _, rfl, rfl, ⟨by decide, by decide +kernel⟩, _, _, rfl, rfl, (show (0 : Int) < (10 ^ (60 : Int).toNat) ^ (8 : Int).toNat by decide +kernel), ?_⟩⟩
      refine ⟨_, rfl, .inl ⟨_, rfl, _, _, rfl, rfl, (by show (0 : Int) < 2147483629; decide), _, rfl, (by show 4 ≤ sizeLine; decide), fun p hp => ?_⟩⟩
      have hp0 : H p = none := (same_upd hq).free hp
      refine k p _ ((same_upd hq).trans (same_upd hp)) hp0 ⟨_, _, 0, i, upd_same, Int.emod_nonneg _ (by decide +kernel), Int.emod_nonneg _ (by decide), Int.emod_lt_of_pos _ (by decide), Int.le_refl _, Int.le_refl _, i0, i1⟩
def spPurses (K : Frag) : Sp := fun vs H Q _ => ∃ (a : Addr) (ns : List Int), vs = [.ref a, .int 1] ∧ SqL K H a (ns.map V.int) ∧
  ∀ (L p : Addr) (H' : Hp), Same H H' → H L = none → H p = none → L ≠ p → H' L = some (.lst [.ref p]) → PurseAt H' p 0 → Q (.ref L) H'
/-! ### what is drawn -/
def spOneOf : Sp := fun vs H Q _ => ∃ (a L : Addr) (n : Nat) (xs : List V), vs = [.ref a, .ref L] ∧ PurseAt H a n ∧ n ≤ 1000000000000 ∧ L ≠ a ∧ H L = some (.lst xs) ∧ 1 ≤ xs.length ∧ xs.length < 1048576 ∧
  ∀ (i : Nat) (x : V) (H' : Hp), xs[i]? = some x → (∀ b, b ≠ a → H' b = H b) → PurseAt H' a (n + 1) → Q x H'
theorem ok_oneOf {f fd_ fm : Addr} {fd fdd fdm : FuncData} (T : Top K mg "_law_one_of" sLOneOf ["purse", "some"] f fd) (TD : Top K mg "_law_draw" sLDraw ["purse", "many"] fd_ fdd)
    (TM : Top K mg "_law_mixed" sLMixed ["seed", "spin", "at"] fm fdm) (B : Blt mg) : FnOk P w K mg base CX0 3 f fd ["purse", "some"] spOneOf := by
  have GD : FnOk P w K mg base CX0 2 fd_ fdd ["purse", "many"] spDraw := ok_draw TD TM B
  refine T.F.ok scLOneOf (fun vs H Q E h => ?_) (fun cdv A outer s H vs Q E hr h => ?_)
  · obtain ⟨_, _, _, _, rfl, _⟩ := h
    rfl
  · obtain ⟨a, L, n, xs, rfl, hp, hn, nLa, hL, h1, h2, k⟩ := h
    refine ⟨_, pss_one (ps_ret (pe_ix ix_list (pv 1) (pe_call GD hr rfl TD.g TD.F.kp TD.b .nil pass0 (pa_cons (pv 0) (pa_cons (pe_callB call_len_seq (by rfl) B.len PySem.boot_len (pa_cons (pv 1) pa_nil)) pa_nil))) (fun _ _ => rfl))), ?_⟩
    refine ⟨_, rfl, _, rfl, _, rfl, L, _, rfl, .inl (SqL.of hL), a, n, _, rfl, hp, hn, by omega, by omega, fun d H' d0 d1 off hp' => ?_⟩
    obtain ⟨j, rfl⟩ := Int.eq_ofNat_of_zero_le d0
    have hj : j < xs.length := by omega
    refine ⟨L, xs, _, xs[j], rfl, rfl, SqL.of (by rw [off L nLa]; exact hL), atI_nat (by simp [hj]), ?_⟩
    exact k j _ H' (by simp [hj]) off hp'
/-- a word: one to eight letters -/
def IsW (z : Str) : Prop := 1 ≤ z.length ∧ z.length ≤ 8 ∧ ∀ c ∈ z.cps.toList, 97 ≤ c ∧ c ≤ 122
def abc : Str := "abcdefghijklmnopqrstuvwxyz"
theorem abc_at : ∀ j : Nat, j < 26 → abc.cps.toList[j]? = some (97 + j) := by decide +kernel
/-- the heap is kept but at a -/
def KeepBut (a : Addr) (H H' : Hp) : Prop := ∀ b o, H b = some o → b ≠ a → H' b = some o
theorem KeepBut.refl (a : Addr) (H : Hp) : KeepBut a H H := fun _ _ e _ => e
theorem KeepBut.trans {a : Addr} {H H1 H2 : Hp} (h : KeepBut a H H1) (h' : KeepBut a H1 H2) : KeepBut a H H2 := fun b o e n => h' b o (h b o e n) n
theorem KeepBut.of_same {a : Addr} {H H' : Hp} (h : Same H H') : KeepBut a H H' := fun b o e _ => h b o e
theorem KeepBut.of_off {a : Addr} {H H' : Hp} (h : ∀ b, b ≠ a → H' b = H b) : KeepBut a H H' := fun b o e n => by rw [h b n]; exact e
theorem KeepBut.free {a b : Addr} {H H' : Hp} (h : KeepBut a H H') (n : H' b = none) (hb : b ≠ a) : H b = none := by
  cases e : H b with
  | none => rfl
  | some o =>
    rw [h b o e hb] at n
    cases n
def spWord : Sp := fun vs H Q _ => ∃ (a : Addr) (n : Nat), vs = [.ref a] ∧ PurseAt H a n ∧ n ≤ 900000000000 ∧ ∀ (z : Str) (H' : Hp), IsW z → KeepBut a H H' → PurseAt H' a (n + 10) → Q (.str z) H'
theorem join_signs : ∀ cs : List Nat, joinL [] (cs.map fun c => [c]) = cs
  | [] => rfl
  | [c] => rfl
  | c :: d :: r => by
    show [c] ++ ([] ++ joinL [] ((d :: r).map fun c => [c])) = c :: d :: r
    rw [join_signs (d :: r)]
    rfl
theorem word_of (cs : List Nat) : (Txt.join ("" : Str) (cs.map fun c => (⟨#[c]⟩ : Str))).cps.toList = cs := by
  rw [TL.join_eq]
  show tl (Str.join "" (cs.map fun c => (⟨#[c]⟩ : Str))) = cs
  rw [tl_join, List.map_map]
  exact join_signs cs
theorem isW_of {cs : List Nat} (h1 : 1 ≤ cs.length) (h2 : cs.length ≤ 8) (h : ∀ c ∈ cs, 97 ≤ c ∧ c ≤ 122) : IsW (Txt.join ("" : Str) (cs.map fun c => (⟨#[c]⟩ : Str))) := by
  have e := word_of cs
  have l : (Txt.join ("" : Str) (cs.map fun c => (⟨#[c]⟩ : Str))).length = cs.length := by
    rw [← congrArg List.length e]
    exact Array.length_toList.symm
  exact ⟨by omega, by omega, by rw [e]; exact h⟩
theorem sum_ones : ∀ cs : List Nat, ((cs.map fun c => (⟨#[c]⟩ : Str)).map (·.length)).sum = cs.length
  | [] => rfl
  | c :: r => by
    show 1 + ((r.map fun c => (⟨#[c]⟩ : Str)).map (·.length)).sum = r.length + 1
    rw [sum_ones r]
    omega
theorem ok_word {f fd_ fm : Addr} {fd fdd fdm : FuncData} (T : Top K mg "_law_word" sLWord ["purse"] f fd) (TD : Top K mg "_law_draw" sLDraw ["purse", "many"] fd_ fdd)
    (TM : Top K mg "_law_mixed" sLMixed ["seed", "spin", "at"] fm fdm) (B : Blt mg) : FnOk P w K mg base CX0 3 f fd ["purse"] spWord := by
  have GD : FnOk P w K mg base CX0 2 fd_ fdd ["purse", "many"] spDraw := ok_draw TD TM B
  refine T.F.ok scLWord (fun vs H Q E h => ?_) (fun cdv A outer s H vs Q E hr h => ?_)
  · obtain ⟨_, _, rfl, _⟩ := h
    rfl
  · obtain ⟨a, n, rfl, hp, hn, k⟩ := h
    refine ⟨_, (pss_cons (ps_set (i := 1) scLWord.nd rfl (Or.inl rfl) (pe_op op_add pe_int (pe_call GD hr rfl TD.g TD.F.kp TD.b .nil pass0 (pa_cons (pv 0) (pa_cons (pe_ifExp (pt_cmpR op_eq (pe_call GD hr rfl TD.g TD.F.kp TD.b .nil pass0 (pa_cons (pv 0) (pa_cons pe_int pa_nil))) pe_int (nomark _)) pe_int pe_int) pa_nil)))))
      (pss_one (ps_ret (pe_join pe_str (pe_lc (own := [("spin", 2)]) (g := gName 2) (tt := tYes) rfl scLWord.nd (pi_range1 (by rfl) B.range (pa_cons (pv 1) pa_nil))
        (blkOk_by (N := ["purse", "size", "spin"]) (sc := defScope sLWord) (by decide +kernel)) (fun _ _ _ _ _ => pg_name (i := 2) scLWord.nd rfl (Or.inl rfl)) (fun _ _ _ _ _ => pts_nil)
        (fun _ _ _ _ _ => pe_ix ix_str pe_str (pe_call GD hr rfl TD.g TD.F.kp TD.b .nil pass0 (pa_cons (pv 0) (pa_cons pe_int pa_nil))) (fun _ _ => rfl))))))), ?_⟩
    refine ⟨_, rfl, _, rfl, a, n, _, rfl, hp, by omega, by decide, by decide, fun d1 H1 c0 c1 off1 hp1 => ⟨rfl, _, rfl, ?_⟩⟩
    refine ite2 (fun _ => ?_) (fun _ => ?_)
    all_goals
      refine ⟨a, n + 1, _, rfl, hp1, by omega, by decide, by decide, fun d2 H2 e0 e1 off2 hp2 => ?_⟩
      have e8 : d2 < 8 := by omega
      have kb : KeepBut a H H2 := (KeepBut.of_off off1).trans (.of_off off2)
      refine ⟨_, _, rfl, rfl, ⟨_, rfl⟩, _, rfl, _, rfl, by omega, by omega, fun D hD => ?_⟩
      have nDa : D ≠ a := by
        obtain ⟨_, _, _, _, e, _⟩ := hp2
        exact (ne_of_none e hD).symm
      refine lc_range (lo := 0) (n := (1 + d2).toNat) (fun i H' => KeepBut a H H' ∧ PurseAt H' a (n + 2 + i) ∧ ∃ cs : List Nat, H' D = some (.lst (cs.map fun c => V.str ⟨#[c]⟩)) ∧ cs.length = i ∧ ∀ c ∈ cs, 97 ≤ c ∧ c ≤ 122)
        ⟨fun b o q hb => ?_, ?_, [], upd_same, rfl, fun c hc => nomatch hc⟩ ?_ ?_
      · rw [upd_ne (ne_of_none (kb b o q hb) hD)]
        exact kb b o q hb
      · obtain ⟨p0, p1, p2, p3, q, r⟩ := hp2
        exact ⟨p0, p1, p2, p3, by rw [upd_ne nDa.symm]; exact q, r⟩
      · rintro i H' hi ⟨kb', hp', cs, eD, el, hc⟩
        have hi8 : i < 8 := by omega
        refine ⟨rfl, _, rfl, a, n + 2 + i, 26, rfl, hp', by omega, by decide, by decide, fun d3 H3 g0 g1 off3 hp3 => ?_⟩
        obtain ⟨j, rfl⟩ := Int.eq_ofNat_of_zero_le g0
        have hj : j < 26 := by omega
        refine ⟨abc, _, _, rfl, rfl, by decide, atI_nat (abc_at j hj), _, (by rw [off3 D nDa]; exact eD), ?_, ?_, ?_, cs ++ [97 + j], ?_, ?_, ?_⟩
        · rw [List.length_map, sizeLine_eq]
          omega
        · intro b o q hb
          have q1 : H3 b = some o := by
            rw [off3 b hb]
            exact kb' b o q hb
          rw [upd_ne ?_]
          · exact q1
          · rintro rfl
            have q2 := kb b o q hb
            rw [hD] at q2
            cases q2
        · obtain ⟨p0, p1, p2, p3, q, r⟩ := hp3
          exact ⟨p0, p1, p2, p3, by rw [upd_ne nDa.symm]; exact q, r⟩
        · rw [upd_same, List.map_append]
          rfl
        · rw [List.length_append, el]
          rfl
        · intro c hc'
          rcases List.mem_append.mp hc' with q | q
          · exact hc c q
          · have q' := List.mem_singleton.mp q
            omega
      · rintro H' ⟨kb', hp', cs, eD, el, hc⟩
        have hl : cs.length = (1 + d2).toNat := el
        refine ⟨_, D, cs.map fun c => (⟨#[c]⟩ : Str), rfl, rfl, .inl (SqL.of (by rw [eD, List.map_map]; rfl)), ?_, ?_⟩
        · rw [sum_ones, List.length_map]
          show cs.length + cs.length * 0 ≤ 16777216
          omega
        · refine k _ H' (isW_of (by omega) (by omega) hc) kb' ?_
          obtain ⟨p0, p1, p2, p3, q, r1, r2, r3, r4, r5, r6⟩ := hp'
          exact ⟨p0, p1, p2, p3, q, r1, r2, r3, r4, by omega, r6⟩
end
end S4

namespace S4
open PySem PySem.Spec PyProof.Rows L2
open PySem.W (Frag)
/-! ### types as data -/
inductive Sg | ov | th | un
  deriving DecidableEq
def Sg.str : Sg → Str
  | .ov => "over"
  | .th => "then"
  | .un => "under"
inductive Ty | w (z : Str) | n (g : Sg) (a b : Ty)
  deriving DecidableEq
inductive TyAt (H : Hp) : V → Ty → Prop
  | w {z : Str} : IsW z → TyAt H (.str z) (.w z)
  | n {p : Addr} {g : Sg} {x y : V} {a b : Ty} : H p = some (.tup [.str g.str, x, y]) → TyAt H x a → TyAt H y b → TyAt H (.ref p) (.n g a b)
/-- what is laid as a tuple stays -/
def TK (H H' : Hp) : Prop := ∀ p xs, H p = some (.tup xs) → H' p = some (.tup xs)
theorem TK.refl (H : Hp) : TK H H := fun _ _ e => e
theorem TK.trans {H H1 H2 : Hp} (h : TK H H1) (h' : TK H1 H2) : TK H H2 := fun p xs e => h' p xs (h p xs e)
theorem TK.of_same {H H' : Hp} (h : Same H H') : TK H H' := fun p xs e => h p _ e
theorem TK.upd_new {H : Hp} {a : Addr} {o : HO} (h : H a = none) : TK H (upd H a o) := TK.of_same (same_upd h)
theorem TK.upd_lst {H : Hp} {a : Addr} {xs ys : List V} (h : H a = some (.lst xs)) : TK H (upd H a (.lst ys)) := fun p zs e => by
  by_cases c : p = a
  · rw [c, h] at e
    cases e
  · rw [upd_ne c]
    exact e
theorem TyAt.mono {H H' : Hp} (k : TK H H') {v : V} {t : Ty} (h : TyAt H v t) : TyAt H' v t := by
  induction h with
  | w h => exact .w h
  | n e _ _ i1 i2 => exact .n (k _ _ e) i1 i2
def Ty.signs : Ty → Nat
  | .w _ => 0
  | .n _ a b => 1 + a.signs + b.signs
def Ty.size : Ty → Nat
  | .w _ => 1
  | .n _ a b => 1 + a.size + b.size
theorem Ty.size_signs (t : Ty) : t.size = 2 * t.signs + 1 := by
  induction t with
  | w _ => rfl
  | n g a b i j => simp only [Ty.size, Ty.signs]; omega
/-- the written names of the modules -/
structure Gbl (K : Frag) (mg : Str → Option Value) : Prop where
  letters : ∃ t, mg "_LETTERS" = some (.str abc t)
  signs : ∃ a, mg "_SIGNS" = some (.ref a) ∧ SqT K (fun _ => none) a [.str "over", .str "then", .str "under"]
theorem sqT_any {K : Frag} {a : Addr} {xs : List V} {H : Hp} (h : SqT K (fun _ => none) a xs) : SqT K H a xs := by
  rcases h with h | h
  · rcases h with h | ⟨o, h⟩
    · cases h
    · cases h
  · exact .inr h
section
variable {P : Program} {w : World} {K : Frag} {mg : Str → Option Value} {base : Heap}
/-! ### words -/
def spIsWord : Sp := fun vs H Q _ => ∃ z, vs = [.str z] ∧ IsW z ∧ ∀ H', Same H H' → Q (.bl true) H'
theorem abc_mem {c : Nat} (h1 : 97 ≤ c) (h2 : c ≤ 122) : c ∈ abc.cps.toList := by
  obtain ⟨j, rfl⟩ : ∃ j, c = 97 + j := ⟨c - 97, by omega⟩
  exact List.mem_of_getElem? (abc_at j (by omega))
theorem ok_isWord {f : Addr} {fd : FuncData} (T : Top K mg "is_word" sIsWord pIsWord f fd) (B : Blt mg) (G : Gbl K mg) : FnOk P w K mg base CX0 1 f fd pIsWord spIsWord := by
  obtain ⟨tl, gl⟩ := G.letters
  refine T.F.ok scIsWord (fun vs H Q E h => ?_) (fun cdv A outer s H vs Q E hr h => ?_)
  · obtain ⟨_, rfl, _⟩ := h
    rfl
  · obtain ⟨z, rfl, ⟨z1, z2, z3⟩, k⟩ := h
    refine ⟨_, (pss_cons (ps_if (PW.pt (pw_or (pt_not (pt_val (pe_callB call_isi (by rfl) B.isi (by decide +kernel) (pa_cons (pv 0) (pa_cons (pe_bltn (v := .ty "str") (by rfl) B.str_ (by decide +kernel) rfl) pa_nil))))) (pw_or1 (pt_not (pt_chain op_le op_le pe_int (pe_callB call_len_str (by rfl) B.len PySem.boot_len (pa_cons (pv 0) pa_nil)) pe_int))))) (pss_one (ps_ret pe_bl)) pss_nil)
      (pss_one (ps_ret (pe_callB (cr_all rfl) (by rfl) B.all (by decide +kernel) (pa_cons (pe_lc (own := [("letter", 1)]) (g := gName 1) (tt := tYes) rfl scIsWord.nd (pi_str (pv 0)) (blkOk_by (N := nIsWord) (sc := defScope sIsWord) (by decide +kernel)) (fun _ _ _ _ _ => pg_name (i := 1) scIsWord.nd rfl (Or.inl rfl)) (fun _ _ _ _ _ => pts_nil) (fun _ _ _ _ _ => (pe_cmpR op_in_sign (pv 1) (pe_glob (v := .str abc) rfl gl ⟨tl, rfl⟩) (by rfl)))) pa_nil))))), ?_⟩
    refine ⟨_, rfl, _, _, _, _, true, rfl, .ty "str", .base (.str z), kit_ty (by decide +kernel), true, rfl, iteF ?_⟩
    refine ⟨_, rfl, _, rfl, by rw [sizeLine_eq]; omega, _, _, rfl, rfl, true, congrArg V.bl (decide_eq_true (by omega)), iteT ⟨_, _, rfl, rfl, true, congrArg V.bl (decide_eq_true (by omega)), iteF ?_⟩⟩
    refine ⟨_, rfl, _, rfl, fun D hD => ?_⟩
    refine lc_it walk_str (fun i H' => H' = upd H D (.lst (List.replicate i (.bl true)))) rfl (fun _ _ _ _ => trivial) ?_ ?_
    · rintro i x H' H2 hi rfl ⟨rfl, c, hc, rfl⟩
      have hm : c ∈ z.cps.toList := Array.mem_toList_iff.mpr (Array.mem_of_getElem? hc)
      refine ⟨rfl, _, rfl, c, abc, rfl, rfl, _, upd_same, ?_, ?_⟩
      · rw [List.length_replicate, sizeLine_eq]
        have : z.cps.size ≤ 8 := z2
        omega
      · rw [upd_upd, decide_eq_true (abc_mem (z3 c hm).1 (z3 c hm).2), ← List.replicate_succ']
    · rintro H' rfl
      refine ⟨_, List.replicate z.cps.size true, rfl, SqL.of (by rw [upd_same, List.map_replicate]), ?_⟩
      have e : (List.replicate z.cps.size true).all id = true := by
        rw [List.all_eq_true]
        intro b hb
        exact (List.mem_replicate.mp hb).2
      rw [e]
      exact k _ (same_upd hD)
/-! ### signs -/
def Ty.node : Ty → Bool
  | .w _ => false
  | .n _ _ _ => true
def spIsSigned : Sp := fun vs H Q _ => ∃ v t, vs = [v] ∧ TyAt H v t ∧ Q (.bl t.node) H
theorem ok_isSigned {f : Addr} {fd : FuncData} (T : Top K mg "_is_signed" sIsSigned pIsSigned f fd) (B : Blt mg) (G : Gbl K mg) : FnOk P w K mg base CX0 1 f fd pIsSigned spIsSigned := by
  obtain ⟨sa, gs, hs⟩ := G.signs
  refine T.F.ok scIsSigned (fun vs H Q E h => ?_) (fun cdv A outer s H vs Q E hr h => ?_)
  · obtain ⟨_, _, rfl, _⟩ := h
    rfl
  · obtain ⟨v, t, rfl, ht, k⟩ := h
    refine ⟨_, pss_one (ps_ret (pe_and (pe_callB call_isi (by rfl) B.isi (by decide +kernel) (pa_cons (pv 0) (pa_cons (pe_bltn (v := .ty "tuple") (by rfl) B.tuple (by decide +kernel) rfl) pa_nil))) (pe_and (pe_cmpR op_eq (pe_callB call_len_seq (by rfl) B.len PySem.boot_len (pa_cons (pv 0) pa_nil)) pe_int (nomark _)) (pe_one (pe_cmpR op_in_seq (pe_ix ix_tup (pv 0) pe_int (fun _ _ => rfl)) (pe_glob (v := .ref sa) rfl gs rfl) (by rfl)))))), ?_⟩
    cases ht with
    | @w z h => exact ⟨_, rfl, _, _, _, _, false, rfl, .ty "tuple", .base (.str z), kit_ty (by decide +kernel), false, rfl, k⟩
    | @n p g x y a b e h1 h2 =>
      refine ⟨_, rfl, _, _, _, _, true, rfl, .ty "tuple", .base (.tup e), kit_ty (by decide +kernel), true, rfl, ?_⟩
      refine ⟨_, rfl, p, _, rfl, .inr (SqT.of e), rfl, true, rfl, ?_⟩
      refine ⟨_, rfl, p, _, _, _, rfl, rfl, SqT.of e, atI_nat (j := 0) rfl, sa, _, rfl, .inr (sqT_any hs), rfl, rfl, ?_⟩
      cases g <;> exact k
end
end S4

namespace S4
open PySem PySem.Spec PyProof.Rows L2
open PySem.W (Frag)
/-- a list of types -/
inductive Tys (H : Hp) : List V → List Ty → Prop
  | nil : Tys H [] []
  | cons {v : V} {t : Ty} {vs : List V} {ts : List Ty} : TyAt H v t → Tys H vs ts → Tys H (v :: vs) (t :: ts)
theorem Tys.mono {H H' : Hp} (k : TK H H') {vs : List V} {ts : List Ty} (h : Tys H vs ts) : Tys H' vs ts := by
  induction h with
  | nil => exact .nil
  | cons h _ ih => exact .cons (h.mono k) ih
theorem Tys.length {H : Hp} {vs : List V} {ts : List Ty} (h : Tys H vs ts) : vs.length = ts.length := by
  induction h with
  | nil => rfl
  | cons _ _ ih => simp [ih]
theorem Tys.append {H : Hp} {vs us : List V} {ts rs : List Ty} (h : Tys H vs ts) (h' : Tys H us rs) : Tys H (vs ++ us) (ts ++ rs) := by
  induction h with
  | nil => exact h'
  | cons h _ ih => exact .cons h ih
theorem Tys.at_ {H : Hp} {vs : List V} {ts : List Ty} (h : Tys H vs ts) : ∀ {i : Nat} {v : V}, vs[i]? = some v → ∃ t, ts[i]? = some t ∧ TyAt H v t := by
  induction h with
  | nil => intro i v e; simp at e
  | cons h _ ih =>
    intro i v e
    cases i with
    | zero =>
      simp at e
      subst e
      exact ⟨_, rfl, h⟩
    | succ i => exact ih (by simpa using e)
def sizes : List Ty → Nat
  | [] => 0
  | t :: r => t.size + sizes r
theorem Ty.size_pos (t : Ty) : 1 ≤ t.size := by
  cases t <;> simp [Ty.size]; omega
theorem sizes_len : ∀ ts : List Ty, ts.length ≤ sizes ts
  | [] => Nat.le_refl _
  | t :: r => by
    have := sizes_len r
    have := t.size_pos
    simp only [List.length_cons, sizes]
    omega
theorem same_over {H0 H : Hp} {W : Addr} {o : HO} (s : Same H0 H) (n : H0 W = none) : Same H0 (upd H W o) := fun b u e => by
  rw [upd_ne (ne_of_none e n)]
  exact s b u e
/-- the parts of a type, as nodes go through them -/
def Ty.parts : Ty → List Ty
  | .w _ => []
  | .n _ a b => [a, b]
theorem cut_not : ¬ (HT.sIx 3 0 (some 1) = 0 ∧ HT.sIx 3 3 none = 3) := by decide +kernel
section
variable {P : Program} {w : World} {K : Frag} {mg : Str → Option Value} {base : Heap}
def spIsKind : Sp := fun vs H Q _ => ∃ v t, vs = [v] ∧ TyAt H v t ∧ t.size ≤ 1000000 ∧ ∀ H', Same H H' → Q (.bl true) H'
theorem ok_isKind {f fs fw : Addr} {fd fds fdw : FuncData} (T : Top K mg "is_kind" sIsKind pIsKind f fd) (TS : Top K mg "_is_signed" sIsSigned pIsSigned fs fds) (TW : Top K mg "is_word" sIsWord pIsWord fw fdw) (B : Blt mg) (G : Gbl K mg) :
    FnOk P w K mg base CX0 2 f fd pIsKind spIsKind := by
  have GS : FnOk P w K mg base CX0 1 fs fds pIsSigned spIsSigned := ok_isSigned TS B G
  have GW : FnOk P w K mg base CX0 1 fw fdw pIsWord spIsWord := ok_isWord TW B G
  refine T.F.ok scIsKind (fun vs H Q E h => ?_) (fun cdv A outer s H vs Q E hr h => ?_)
  · obtain ⟨_, _, rfl, _⟩ := h
    rfl
  · obtain ⟨v, t, rfl, ht, hz, k⟩ := h
    refine ⟨_, (pss_cons (ps_set (i := 1) scIsKind.nd rfl (Or.inl rfl) (pe_lst (pa_cons (pv 0) pa_nil)))
      (pss_cons (ps_while PassesOwn.never (pt_truth (pv 1) (by intro _; rfl))
        (pss_cons (ps_set (i := 2) scIsKind.nd rfl (Or.inl rfl) (pe_bm0 PySem.F.plainAttrs_list PySem.F.slot_list_pop PySem.F.type_list_pop mt_pop (pv 1)))
      (pss_one (ps_if (pt_val (pe_call GS hr rfl TS.g TS.F.kp TS.b .nil pass0 (pa_cons (pv 2) pa_nil))) (pss_one (ps_expr (pe_bm PySem.F.plainAttrs_list PySem.F.slot_list_extend PySem.F.type_list_extend KT.mt_extT (pv 1) (pa_cons (pe_slice sl_tup (pv 2) (po_some pe_int) po_none) pa_nil))))
            (pss_one (ps_if (pt_not (pt_val (pe_call GW hr rfl TW.g TW.F.kp TW.b .nil pass0 (pa_cons (pv 2) pa_nil)))) (pss_one (ps_ret pe_bl)) pss_nil))))))
      (pss_one (ps_ret pe_bl)))), ?_⟩
    refine ⟨v, rfl, by show 1 ≤ sizeLine; rw [sizeLine_eq]; omega, fun W hW => ?_⟩
    refine ⟨fun m σ H' => ∃ (vs : List V) (ts : List Ty) (v2 : Option V), σ = [some v, some (.ref W), v2] ∧ H' W = some (.lst vs.reverse) ∧ Tys H' vs ts ∧ sizes ts = m ∧ m ≤ 1000000 ∧ Same H H', ⟨t.size, [v], [t], none, rfl, upd_same, .cons (ht.mono (TK.upd_new hW)) .nil, rfl, hz, same_upd hW⟩, ?_⟩
    rintro m σ H1 ⟨vs, ts, v2, rfl, hL, hT, rfl, hm, hs⟩
    refine ⟨_, rfl, _, .inl ⟨_, SqL.of hL, rfl⟩, ?_⟩
    cases hT with
    | nil => exact iteF (k H1 hs)
    | @cons y u vs ts h1 h2 =>
      have el : (y :: vs).reverse = vs.reverse ++ [y] := List.reverse_cons
      have c : (!(y :: vs).reverse.isEmpty) = true := by rw [el]; simp
      rw [c]
      refine iteT ⟨fun σ' H' => ∃ m' < sizes (u :: ts), ∃ (vs : List V) (ts : List Ty) (v2 : Option V), σ' = [some v, some (.ref W), v2] ∧ H' W = some (.lst vs.reverse) ∧ Tys H' vs ts ∧ sizes ts = m' ∧ m' ≤ 1000000 ∧ Same H H', fun σ' H' q => q, ?_⟩
      refine ⟨_, rfl, .inl ⟨rfl, _, SqL.of hL⟩, W, _, y, rfl, rfl, hL, by rw [el]; simp, ?_⟩
      have ed : (y :: vs).reverse.dropLast = vs.reverse := by rw [el]; simp
      rw [ed]
      have tk : TK H1 (upd H1 W (.lst vs.reverse)) := TK.upd_lst hL
      have hs' : Same H (upd H1 W (.lst vs.reverse)) := same_over hs hW
      refine ⟨y, rfl, y, u, rfl, h1.mono tk, _, rfl, ?_⟩
      cases h1 with
      | @w z hz =>
        refine iteF ⟨_, rfl, z, rfl, hz, fun H2 s2 => ⟨_, rfl, iteF ⟨sizes ts, ?_, vs, ts, _, rfl, s2 _ _ upd_same, h2.mono (tk.trans (TK.of_same s2)), rfl, ?_, hs'.trans s2⟩⟩⟩
        · show sizes ts < 1 + sizes ts
          omega
        · have : 1 + sizes ts ≤ 1000000 := hm
          omega
      | @n p g x1 x2 a b e k1 k2 =>
        refine iteT ⟨_, rfl, .inl ⟨rfl, _, SqL.of upd_same⟩, _, rfl, _, rfl, p, _, rfl, SqT.of (tk _ _ e), cut_not, fun p' hp => ?_⟩
        have np : W ≠ p' := ne_of_none upd_same hp
        refine ⟨W, p', _, _, rfl, rfl, by rw [upd_ne np, upd_same], SqT.of upd_same, ?_, ?_⟩
        · have l1 := h2.length
          have l2 := sizes_len ts
          show vs.reverse.length + 2 ≤ sizeLine
          rw [List.length_reverse, sizeLine_eq]
          have : (1 + a.size + b.size) + sizes ts ≤ 1000000 := hm
          omega
        · have hp1 : H1 p' = none := by
            rw [upd_ne np.symm] at hp
            exact hp
          have tk2 : TK H1 (upd (upd (upd H1 W (.lst vs.reverse)) p' (.tup [x1, x2])) W (.lst (vs.reverse ++ [x1, x2]))) := (tk.trans (TK.upd_new hp)).trans (TK.upd_lst (by rw [upd_ne np, upd_same]))
          have tk3 : TK H1 (upd (upd H1 W (.lst vs.reverse)) p' (.tup [x1, x2])) := tk.trans (TK.upd_new hp)
          refine ⟨b.size + (a.size + sizes ts), ?_, x2 :: x1 :: vs, b :: a :: ts, _, rfl, ?_, .cons (k2.mono tk2) (.cons (k1.mono tk2) (h2.mono tk2)), rfl, ?_, ?_⟩
          · show _ < (1 + a.size + b.size) + sizes ts
            omega
          · rw [upd_same]
            simp
            rfl
          · have : (1 + a.size + b.size) + sizes ts ≤ 1000000 := hm
            omega
          · exact same_over (hs'.trans (same_upd hp)) hW
end
end S4

/-! Functions as values: what may be called, and what must stand for it. -/
namespace KT
open PySem PySem.Spec PyProof.Rows L2 NdefX LamX
/-- objects that nobody tracks (captured cells) -/
abbrev Pins := List (Addr × Obj)
/-- function and code objects that are tracked -/
abbrev Exts := List (Addr × HO)
def Dep (D : Pins) (outer : List Env) (s : Shared) (H : Hp) : Prop := ∀ p ∈ D, s.heap.get? p.1 = some p.2 ∧ H p.1 = none ∧ p.1 ∉ frs outer
def ExOk (EX : Exts) (H : Hp) : Prop := ∀ p ∈ EX, H p.1 = some p.2
theorem Dep.nil {outer : List Env} {s : Shared} {H : Hp} : Dep [] outer s H := fun p hp => absurd hp (by simp)
theorem Dep.app {D D' : Pins} {outer : List Env} {s : Shared} {H : Hp} (h : Dep D outer s H) (h' : Dep D' outer s H) : Dep (D ++ D') outer s H := fun p hp => (List.mem_append.mp hp).elim (h p) (h' p)
theorem Dep.left {D D' : Pins} {outer : List Env} {s : Shared} {H : Hp} (h : Dep (D ++ D') outer s H) : Dep D outer s H := fun p hp => h p (List.mem_append.mpr (.inl hp))
theorem Dep.right {D D' : Pins} {outer : List Env} {s : Shared} {H : Hp} (h : Dep (D ++ D') outer s H) : Dep D' outer s H := fun p hp => h p (List.mem_append.mpr (.inr hp))
theorem Dep.go {X : Cx} {pins : List (Addr × Obj)} {σ : L2.St} {H : Hp} {s : Shared} {D : Pins} (hx : X.ex = []) (d : Dep D X.outer X.s_0 X.H_0) (I : Inv X pins σ H s) : Dep D X.stack s H := fun p hp => by
  obtain ⟨h1, h2, h3⟩ := d p hp
  have ne : p.1 ∉ X.ex := by rw [hx]; simp
  refine ⟨I.base.keep _ _ h1 h2 h3 ne, I.base.free _ _ h1 h2 ne, fun z => ?_⟩
  rcases List.mem_cons.mp (I.stkSub _ z) with e | e
  · have a := I.ok.above
    rw [← e] at a
    exact absurd (Heap.lt_size h1) (Nat.not_lt.mpr a)
  · exact h3 e
/-- f may be called by whoever keeps D and EX -/
structure Callee (P : Program) (w : World) (K : PySem.W.Frag) (mg : Str → Option Value) (base : Heap) (k : Nat) (f : Addr) (sp : Sp) (D : Pins) (EX : Exts) : Prop where
  run : ∀ (A : Around) (outer : List Env) (s : Shared) (H : Hp) (us : List Value) (vs : List V) (Q : VK), Room k A → Env0 P w K mg base A outer s H → Dep D outer s H → ExOk EX H → Vals vs us → sp vs H Q L2.E0 →
    codeAny (model P w) A (.call (.ref f) ⟨us, []⟩) (CR L2.CX0 outer P w H s Q L2.E0) s
  at_ : ∀ (h : Heap) (H : Hp), K.In h → HOk P w H h → ExOk EX H → PySem.W.FnAt f h
theorem Callee.mono {P : Program} {w : World} {K : PySem.W.Frag} {mg : Str → Option Value} {base : Heap} {k j : Nat} {f : Addr} {sp : Sp} {D D' : Pins} {EX EX' : Exts} (C : Callee P w K mg base k f sp D EX) (hk : k ≤ j) (hD : ∀ p ∈ D, p ∈ D') (hE : ∀ p ∈ EX, p ∈ EX') : Callee P w K mg base j f sp D' EX' :=
  ⟨fun A outer s H us vs Q hr e0 d x r q => C.run A outer s H us vs Q (hr.mono hk) e0 (fun p hp => d p (hD p hp)) (fun p hp => x p (hE p hp)) r q, fun h H a b c => C.at_ h H a b fun p hp => c p (hE p hp)⟩
theorem Callee.imp {P : Program} {w : World} {K : PySem.W.Frag} {mg : Str → Option Value} {base : Heap} {k : Nat} {f : Addr} {sp sp' : Sp} {D : Pins} {EX : Exts} (C : Callee P w K mg base k f sp D EX) (h : ∀ vs H Q, sp' vs H Q L2.E0 → sp vs H Q L2.E0) : Callee P w K mg base k f sp' D EX :=
  ⟨fun A outer s H us vs Q hr e0 d x r q => C.run A outer s H us vs Q hr e0 d x r (h _ _ _ q), C.at_⟩
/-- a def of the top -/
theorem callee_top {P : Program} {w : World} {K : PySem.W.Frag} {mg : Str → Option Value} {base : Heap} {k : Nat} {f : Addr} {fd : FuncData} {x q : Str} {st : Stmt} {ps : List Str} {sp : Sp} (F : FnOk P w K mg base L2.CX0 k f fd ps sp) (T : Fun K x q st f fd) (b : L2.Binds K fd ps []) : Callee P w K mg base k f sp [] [] where
  run := fun A outer s H us vs Q hr e0 _ _ r h => by
    have KX : K.In s.heap := e0.mod.kin.keeps fun b o e => (e0.bs b o e).1
    have hl : (us ++ []).length = ps.length := by
      rw [List.append_nil, ← r.length]
      exact F.len _ _ _ _ h
    have hb := b s us KX hl
    rw [List.append_nil] at hb
    exact F.run A outer s H ⟨us, []⟩ us vs Q L2.E0 hr e0 hb r h
  at_ := fun h H KX _ _ => by
    obtain ⟨oc, od, kV, doc, pm, an, cdv, ct, osl, rfl, lk, _⟩ := T.ex
    exact ⟨_, _, _, _, KX _ _ lk⟩
section
variable {X : Cx} {k i : Nat} {f : Addr} {sp : Sp} {D : Pins} {EX : Exts} {x : Str} {p pos : Pos} {e : Expr} {es : List Expr} {t : TA}
theorem run_callee {pins : List (Addr × Obj)} {σ : L2.St} {H : Hp} {s : Shared} {Q : VK} {us : List Value} {vs : List V} (C : Callee X.prog X.w X.K X.mg X.base k f sp D EX) (hr : Room k X.A) (d : Dep D X.stack s H) (x : ExOk EX H) (I : Inv X pins σ H s) (r : Vals vs us) (h : sp vs H Q L2.E0) :
    wpAny (model X.prog X.w) X.A (call (.ref f) us) (EP X pins σ Q) X.xe s := by
  refine wpAny_call (codeAny_mono (C.run X.A X.stack s H us vs Q hr I.env0 d x r h) fun q s' hq => ?_)
  match q, hq with
  | .error _, hq => exact False.elim hq
  | .ok (.ret _), hq => exact I.after hq
  | .ok .next, hq => exact False.elim hq
  | .ok .brk, hq => exact False.elim hq
  | .ok .cont, hq => exact False.elim hq
def tCallee (i : Nat) (f : Addr) (sp : Sp) (EX : Exts) (t : TA) : TE := fun σ H Q => σ[i]? = some (some (.ref f)) ∧ ExOk EX H ∧ t σ H fun vs H1 => ExOk EX H1 ∧ sp vs H1 Q L2.E0
/-- x(e, ..), x a name that holds f -/
theorem pe_callee (C : Callee X.prog X.w X.K X.mg X.base k f sp D EX) (hr : Room k X.A) (hx : X.ex = []) (d : Dep D X.outer X.s_0 X.H_0) (hN : X.N[i]? = some x) (hv : Vis X.env.scope x) (ha : PA X (e :: es) t)
    (hd : (x == ("__debug__" : Str)) = false := by decide) (hcd : (x == ("__classdict__" : Str)) = false := by decide)
    (he : starEach (e :: es) X.env = (false, eval e X.env) :: starEach es X.env := by rfl) (hpl : (backTo pos (starEach es X.env)).any (·.1) = false := by rfl) :
    PE X (.Call (.Name x p) (e :: es) [] pos) (tCallee i f sp EX t) := by
  refine ⟨fun pins s σ H Q I h => ?_⟩
  obtain ⟨hs, hE, ht⟩ := h
  refine wpAny_Call_Name_kw (thn ((pe_var (pos := p) hN hv hd hcd).run pins s σ H (fun v H1 => v = .ref f ∧ H1 = H) I ⟨.ref f, hs, rfl, rfl⟩) fun u s1 ⟨v, H1, I1, r1, q1⟩ => ?_)
  obtain ⟨ev, eH⟩ := q1
  subst ev
  rw [eH] at I1
  obtain rfl : u = Value.ref f := r1
  refine PySem.W.callWith_F (first := []) (C.at_ _ _ I1.kIn I1.hok hE) (thn (ha.run pos pins s1 σ H _ I1 ht) fun us s2 ⟨vs, H2, I2, r, h1, q⟩ => ⟨C.at_ _ _ I2.kIn I2.hok h1, ?_⟩) he hpl
  show wpAny _ _ (call (.ref f) us) _ _ _
  exact run_callee C hr (d.go hx I2) h1 I2 r q
end
/-! ### what is captured -/
/-- the cells of cl stand in D, with the values ws -/
structure CellD (D : Pins) (cl : List (Str × Addr)) (fr : List Str) (ws : List (Option V)) : Prop where
  len : ws.length = fr.length
  all : ∀ y c, cl.lookup y = some c → ∃ o v, (c, o) ∈ D ∧ o.data = .cell v
  inj : ∀ x y c, cl.lookup x = some c → cl.lookup y = some c → x = y
  has : ∀ (i : Nat) (y : Str), fr[i]? = some y → ∃ c, cl.lookup y = some c ∧ ∀ v, ws[i]? = some (some v) → ∃ u o, L2.RelV v u ∧ (c, o) ∈ D ∧ o.data = .cell (some u)
theorem CellD.at_ {D : Pins} {cl : List (Str × Addr)} {fr : List Str} {ws : List (Option V)} (C : CellD D cl fr ws) {outer : List Env} {s : Shared} {H : Hp} (d : Dep D outer s H) : CellsAt cl fr ws s.heap H where
  len := C.len
  all := fun y c e => by
    obtain ⟨o, v, hm, hd⟩ := C.all y c e
    obtain ⟨h1, h2, _⟩ := d _ hm
    exact ⟨h2, v, o, h1, hd⟩
  inj := C.inj
  has := fun i y e => by
    obtain ⟨c, hc, hv⟩ := C.has i y e
    refine ⟨c, hc, fun v ev => ?_⟩
    obtain ⟨u, o, r, hm, hd⟩ := hv v ev
    exact ⟨u, r, o, (d _ hm).1, hd⟩
theorem CellD.mono {D D' : Pins} {cl : List (Str × Addr)} {fr : List Str} {ws : List (Option V)} (C : CellD D cl fr ws) (h : ∀ p ∈ D, p ∈ D') : CellD D' cl fr ws :=
  ⟨C.len, fun y c e => by
    obtain ⟨o, v, hm, hd⟩ := C.all y c e
    exact ⟨o, v, h _ hm, hd⟩, C.inj, fun i y e => by
    obtain ⟨c, hc, hv⟩ := C.has i y e
    refine ⟨c, hc, fun v ev => ?_⟩
    obtain ⟨u, o, r, hm, hd⟩ := hv v ev
    exact ⟨u, o, r, h _ hm, hd⟩⟩
/-- the running def's own cells, as they stand -/
theorem own_cells {X : Cx} {pins : List (Addr × Obj)} {σ : L2.St} {H : Hp} {s : Shared} {cl : List (Str × Addr)} {fr : List Str} {js : List Nat} (I : Inv X pins σ H s) (hx : X.ex = []) (hfn : ∀ x, X.fn x = true) (c : Caps X cl fr js) :
    ∃ D, Dep D X.stack s H ∧ CellD D cl fr (js.map (slotAt σ)) := by
  have C := cells_of I c
  have mem : ∀ {y : Str} {a : Addr} {o : Obj}, cl.lookup y = some a → s.heap.get? a = some o → (a, o) ∈ cl.filterMap (fun p => (cl.lookup p.1).bind fun a => (s.heap.get? a).map fun o => (a, o)) := fun {y a o} e ho => by
    refine List.mem_filterMap.mpr ⟨(y, a), PySem.mem_of_lookup e, ?_⟩
    show (cl.lookup y).bind _ = _
    rw [e]
    show (s.heap.get? a).map _ = _
    rw [ho]
    rfl
  refine ⟨cl.filterMap fun p => (cl.lookup p.1).bind fun a => (s.heap.get? a).map fun o => (a, o), fun p hp => ?_, C.len, fun y a e => ?_, C.inj, fun i y e => ?_⟩
  · obtain ⟨⟨y, a0⟩, hm, e⟩ := List.mem_filterMap.mp hp
    obtain ⟨a, ha, e⟩ := Option.bind_eq_some_iff.mp e
    obtain ⟨o, ho, e⟩ := Option.map_eq_some_iff.mp e
    subst e
    have ha' : cl.lookup y = some a := ha
    have hX := c.sub y a ha'
    refine ⟨ho, (C.all y a ha').1, fun z => ?_⟩
    rcases List.mem_cons.mp (I.stkSub _ z) with e | e
    · exact I.cne y a hX e
    · obtain ⟨_, o', ho', _⟩ := I.ok.funs.mem e
      exact absurd (Heap.lt_size ho') (Nat.not_lt.mpr (I.ok.cab y a (hfn y) hX))
  · obtain ⟨_, v, o, ho, hd⟩ := C.all y a e
    exact ⟨o, v, mem e ho, hd⟩
  · obtain ⟨a, ha, hv⟩ := C.has i y e
    refine ⟨a, ha, fun v ev => ?_⟩
    obtain ⟨u, r, o, ho, hd⟩ := hv v ev
    exact ⟨u, o, r, mem ha ho, hd⟩
/-! ### functions made within defs -/
section
variable {P : Program} {w : World} {K : PySem.W.Frag} {mg : Str → Option Value} {base : Heap} {N ps fr : List Str} {ws : List (Option V)} {F : NF} {f : Addr} {k : Nat} {sp : Sp} {D : Pins} {EX : Exts}
/-- a def in a def -/
theorem callee_def (S : NScope N ps fr F.scope) (hb : ∀ (doc pm ctv : Value) (us : List Value), us.length = ps.length → bindArgs (F.fd doc pm ctv) ⟨us, []⟩ = pure (ps.zip us)) (len : ∀ vs H Q, sp vs H Q L2.E0 → vs.length = ps.length)
    (hf : (f, FnO f F) ∈ EX) (hc : (F.c, CodeO F.c F.qual) ∈ EX) (C : CellD D F.cl fr ws)
    (hbody : ∀ (A : Around) (outer : List Env) (s : Shared) (H : Hp) (vs : List V) (Q : VK), Room k (A.deeper (envF F f s.heap.objs.size)) → Dep D outer s H → ExOk EX H → sp vs H Q L2.E0 →
      ∃ t, PSs (ncx L2.CX0 P w K mg base N F f A outer s H L2.E0) F.body t ∧ t { nx := fun _ H' => Q .non H', rt := Q } (startF N vs ws) H) :
    Callee P w K mg base (k + 1) f sp D EX where
  at_ := fun h H _ hok x => by
    obtain ⟨od, sl, doc, pm, ctv, ho⟩ := fnO_at hok (x _ hf)
    exact ⟨_, od, _, sl, ho⟩
  run := fun A outer s H us vs Q hr e0 d x r hsp => by
    have hl := len _ _ _ hsp
    have lim : s.heap.NoLimit := e0.mod.nolimit.keeps fun b o e => (e0.bs b o e).1
    obtain ⟨od, sl, doc, pm, ctv, ho⟩ := fnO_at e0.hok (x _ hf)
    refine codeAny_call_function hr.depth ho rfl S.co S.gen rfl (codeO_at e0.hok (x _ hc)) ?_
    rw [hb doc pm ctv us (by rw [← r.length]; exact hl)]
    refine wpAny_pure (wpAny_newFunctionEnv S.nocell (fun ⟨n, _⟩ hy => S.par n (List.of_mem_zip hy).1) (fun h₁ hns hsb => ⟨lim.fresh _ hsb, ?_⟩) S.kind)
    show codeAny _ _ (.func F.body (envF F f s.heap.objs.size)) _ _
    refine codeAny_func ?_
    have kp : ∀ b o, s.heap.get? b = some o → h₁.get? b = some o := fun b o e => hsb.extBut b o (Nat.ne_of_lt (Heap.lt_size e)) (Heap.get?_push_of_some _ e)
    obtain ⟨t, ht, hq⟩ := hbody A outer s H vs Q (hr.deeper _) d x hsp
    have I : Inv (ncx L2.CX0 P w K mg base N F f A outer s H L2.E0) [] (startF N vs ws) H { s with heap := h₁, toks := s.toks + (ps.zip us).length } := inv_startN S hr.hd e0 hl r (C.at_ d) hns kp
    refine wpAny_mono (ht.run [] _ (startF N vs ws) H _ I hq) (fun fl s' hs => ?_) fun e s' hs => hs
    have fin : ∀ {σ' : L2.St} {H' : Hp} {v : V} {u : Value}, Inv (ncx L2.CX0 P w K mg base N F f A outer s H L2.E0) [] σ' H' s' → L2.RelV v u → Q v H' → CE outer P w H s Q u s' :=
      fun {σ' H' v u} J rv q => ⟨v, H', J.os, J.bare, J.base, J.hok, rv, q⟩
    match fl, hs with
    | .ret u, ⟨v, σ', H', J, rv, q⟩ => exact fin J rv q
    | .next, ⟨σ', H', J, q⟩ => exact fin (v := V.non) (u := Value.none) J rfl q
    | .brk, ⟨_, _, _, q⟩ => exact False.elim q
    | .cont, ⟨_, _, _, q⟩ => exact False.elim q
/-- the object at f is the lambda of these words -/
def LamO (f : Addr) (F : NF) (body : Expr) : HO := .ext fun h => ∃ (pm ctv : Value), h.get? f = some (PySem.W.kla_obj F.name F.qual F.params body F.scope F.cl pm F.c ctv)
theorem lamO_at {H : Hp} {h : Heap} {body : Expr} (hok : HOk P w H h) (e : H f = some (LamO f F body)) : ∃ (pm ctv : Value), h.get? f = some (PySem.W.kla_obj F.name F.qual F.params body F.scope F.cl pm F.c ctv) := by
  obtain ⟨z, _, _⟩ := hok f _ e
  exact z
theorem callee_lam {body : Expr} (S : NScope N ps fr F.scope) (hb : ∀ (pm ctv : Value) (us : List Value), us.length = ps.length → bindArgs (PySem.W.kla_fn F.name F.qual F.params body F.scope F.cl pm (.ref F.c) ctv) ⟨us, []⟩ = pure (ps.zip us)) (len : ∀ vs H Q, sp vs H Q L2.E0 → vs.length = ps.length)
    (hf : (f, LamO f F body) ∈ EX) (hc : (F.c, CodeO F.c F.qual) ∈ EX) (C : CellD D F.cl fr ws)
    (hbody : ∀ (A : Around) (outer : List Env) (s : Shared) (H : Hp) (vs : List V) (Q : VK), Room k (A.deeper (envF F f s.heap.objs.size)) → Dep D outer s H → ExOk EX H → sp vs H Q L2.E0 →
      ∃ t, PE (ncx L2.CX0 P w K mg base N F f A outer s H L2.E0) body t ∧ t (startF N vs ws) H Q) :
    Callee P w K mg base (k + 1) f sp D EX where
  at_ := fun h H _ hok x => by
    obtain ⟨pm, ctv, ho⟩ := lamO_at hok (x _ hf)
    exact ⟨_, _, _, _, ho⟩
  run := fun A outer s H us vs Q hr e0 d x r hsp => by
    have hl := len _ _ _ hsp
    have lim : s.heap.NoLimit := e0.mod.nolimit.keeps fun b o e => (e0.bs b o e).1
    obtain ⟨pm, ctv, ho⟩ := lamO_at e0.hok (x _ hf)
    refine PySem.W.kla_callFunE hr.depth ho rfl S.co S.gen rfl (codeO_at e0.hok (x _ hc)) ?_
    rw [hb pm ctv us (by rw [← r.length]; exact hl)]
    refine wpAny_pure (wpAny_newFunctionEnv S.nocell (fun ⟨n, _⟩ hy => S.par n (List.of_mem_zip hy).1) (fun h₁ hns hsb => ⟨lim.fresh _ hsb, ?_⟩) S.kind)
    show codeAny _ _ (.expr body (envF F f s.heap.objs.size)) _ _
    have kp : ∀ b o, s.heap.get? b = some o → h₁.get? b = some o := fun b o e => hsb.extBut b o (Nat.ne_of_lt (Heap.lt_size e)) (Heap.get?_push_of_some _ e)
    obtain ⟨t, ht, hq⟩ := hbody A outer s H vs Q (hr.deeper _) d x hsp
    have I : Inv (ncx L2.CX0 P w K mg base N F f A outer s H L2.E0) [] (startF N vs ws) H { s with heap := h₁, toks := s.toks + (ps.zip us).length } := inv_startN S hr.hd e0 hl r (C.at_ d) hns kp
    refine PySem.W.kla_codeExpr (wpAny_mono (ht.run [] _ (startF N vs ws) H Q I hq) (fun v s' hq => ?_) fun e s' hq => hq)
    obtain ⟨w', H', J, rv, q⟩ := hq
    exact ⟨w', H', J.os, J.bare, J.base, J.hok, rv, q⟩
end
end KT

/-! A lambda as a value; defs whose promise stands on captured cells. -/
namespace KT
open PySem PySem.Spec PyProof.Rows L2 NdefX LamX
section
variable {X : Cx} {pins : List (Addr × Obj)} {σ : L2.St} {H : Hp} {s : Shared}
theorem inv_lam {F : NF} {body : Expr} {o : Obj} {t' : Nat} {pm ctv : Value} (I : Inv X pins σ H s) (ho : o = PySem.W.kla_obj F.name F.qual F.params body F.scope F.cl pm F.c ctv) :
    Inv X pins σ (upd H s.heap.objs.size (LamO s.heap.objs.size F body)) { s with heap := s.heap.push o, toks := t' } := by
  subst ho
  refine I.laid (a := s.heap.objs.size) (fun b u e => Heap.get?_push_of_some _ e) (Nat.le_refl _) ?_
  have e : (s.heap.push (PySem.W.kla_obj F.name F.qual F.params body F.scope F.cl pm F.c ctv)).get? s.heap.objs.size = some (PySem.W.kla_obj F.name F.qual F.params body F.scope F.cl pm F.c ctv) := Heap.get?_push_size _ rfl
  exact ⟨⟨pm, ctv, e⟩, ⟨_, e⟩, fun h1 h2 ⟨p, t, z⟩ st => ⟨p, t, st _ z⟩⟩
abbrev lamF (X : Cx) (params : Arguments) (scope : Scope) (c' : Addr) : NF := ⟨"<lambda>", X.env.qual ++ "<lambda>", params, [], scope, cloFrom X.env.cells scope.names [], c'⟩
theorem lam_makeT {T : List (Addr × Str)} {c P : Addr} {params : Arguments} {body : Expr} {scope : Scope} {pos : Pos} {E : Value → Shared → Prop} {Q : Value → Shared → Prop} (I : Inv X pins σ H s) (TB : TabB X.base X.mg c P) (hcode : X.env.code = .ref c)
    (hm : (P, X.env.qual ++ "<lambda>") ∈ T) (hu : ∀ p ∈ T, p.1 = P → p.2 = X.env.qual ++ "<lambda>") (hT : Tabs T H) (hdef : defaultsOf params X.env = ([], [])) (hfree : ∀ y ∈ scope.names, y.2 = .free → ∃ c, X.env.cells.lookup y.1 = some c)
    (h : ∀ (f c' : Addr) (H1 : Hp) (s' : Shared), Inv X pins σ H1 s' → ExtN H H1 → (∀ b, H1 b = none → H b = none) → Tabs T H1 → H f = none → H1 f = some (LamO f (lamF X params scope c') body) → H1 c' = some (CodeO c' (X.env.qual ++ "<lambda>")) → Q (.ref f) s') :
    wpAny (model X.prog X.w) X.A (eval (.Lambda params body scope pos) X.env) Q E s := by
  obtain ⟨ps, hP, ht, ha⟩ := hT _ hm
  refine PySem.W.kla_eval hdef ?_
  have bP : s.heap.BuiltinsAt X.mg P := TB.bm.keeps I.bk
  have hP' : s.heap.get? P = some { cls := .none, data := .fields ps } := I.hok P _ hP
  cases hc : codeAmong pos ps.toList with
  | none =>
    refine PySem.W.kla_makeFunction (mg := X.mg) (c := c) (P := P) (ps := ps) (closure_ok hfree) I.ok.glob (I.mod.glob.keeps I.bk) hcode (TB.code.keeps I.bk) hP' ht hc TB.gP bP fun c' ctv h' tk hx hge hlt hrec htb => ?_
    obtain ⟨c2, oc, vs, t, e2, hoc, hd, hv⟩ := hrec
    cases e2
    have nC : H c' = none := I.hok.fresh hge
    have I1 := inv_table (t' := tk) (more := #[rawInt pos.line, rawInt pos.col, .ref c']) (h' := h') I hP (fun b o hb e => hx b o hb e) htb hge ⟨oc, vs, t, hoc, hd, hv⟩
    have hE : ExtN H (upd (upd H P (.tbl (ps ++ #[rawInt pos.line, rawInt pos.col, .ref c']))) c' (CodeO c' (X.env.qual ++ "<lambda>"))) := fun b o e n => by
      rw [upd_ne (ne_of_none e nC), upd_ne (fun z => n ps (Option.some.inj (e.symm.trans (by rw [z]; exact hP))))]
      exact e
    have eL : (ps ++ #[rawInt pos.line, rawInt pos.col, .ref c']).toList = ps.toList ++ [rawInt pos.line, rawInt pos.col, .ref c'] := by simp
    have T1 : Tabs T (upd (upd H P (.tbl (ps ++ #[rawInt pos.line, rawInt pos.col, .ref c']))) c' (CodeO c' (X.env.qual ++ "<lambda>"))) := fun p hp => by
      by_cases hb : p.1 = P
      · rw [hu p hp hb, hb]
        refine ⟨_, by rw [upd_ne (ne_of_none hP nC), upd_same], by rw [eL]; exact PySem.TriplesOk_snoc _ _ _ _ ht, fun p' cv hcv => ?_⟩
        rw [eL] at hcv
        rcases among_app _ ht hcv with z | z
        · obtain ⟨c0, e1, e2⟩ := ha p' cv z
          exact ⟨c0, e1, hE _ _ e2 codeO_ne⟩
        · exact ⟨c', z, upd_same⟩
      · obtain ⟨ps', a1, a2, a3⟩ := hT p hp
        refine ⟨ps', by rw [upd_ne (ne_of_none a1 nC), upd_ne hb]; exact a1, a2, fun p' cv hcv => ?_⟩
        obtain ⟨c0, e1, e2⟩ := a3 p' cv hcv
        exact ⟨c0, e1, hE _ _ e2 codeO_ne⟩
    have nF := I1.hok.fresh (Nat.le_refl _)
    have I2 := inv_lam (F := lamF X params scope c') (body := body) (t' := tk) (pm := (X.mg "__name__").getD .none) (ctv := ctv) I1 rfl
    refine h h'.objs.size c' _ _ I2 (fun b o e n => ?_) (fun b e => upd_none (upd_none (upd_none e))) (T1.ext fun b o e => ?_) (I.hok.fresh (Nat.le_trans hge (Nat.le_of_lt hlt))) upd_same ?_
    · have e1 := hE b o e n
      exact (upd_ne (ne_of_none e1 nF)).trans e1
    · exact (upd_ne (ne_of_none e nF)).trans e
    · exact (upd_ne (Nat.ne_of_lt hlt)).trans upd_same
  | some cv =>
    obtain ⟨c', e, hco⟩ := ha pos cv hc
    subst e
    refine PySem.W.kla_makeFunctionHit (mg := X.mg) (c := c) (P := P) (ps := ps) (closure_ok hfree) I.ok.glob (I.mod.glob.keeps I.bk) hcode (TB.code.keeps I.bk) hP' ht hc bP fun ctv h' tk hx hsz => ?_
    have I1 : Inv X pins σ H { s with heap := h', toks := tk } := I.kept hx
    have nF : H h'.objs.size = none := I1.hok.fresh (Nat.le_refl _)
    have I2 := inv_lam (F := lamF X params scope c') (body := body) (t' := tk) (pm := (X.mg "__name__").getD .none) (ctv := ctv) I1 rfl
    refine h h'.objs.size c' _ _ I2 (fun b o e n => ?_) (fun b e => upd_none e) (hT.ext fun b o e => ?_) nF upd_same ?_
    · exact (upd_ne (ne_of_none e nF)).trans e
    · exact (upd_ne (ne_of_none e nF)).trans e
    · exact (upd_ne (ne_of_none hco nF)).trans hco
end
/-- lambda ..: .., as a value -/
def tLamV (T : List (Addr × Str)) (mk : Addr → NF) (body : Expr) : TE := fun _ H Q => Tabs T H ∧ ∀ (f c' : Addr) (H1 : Hp), ExtN H H1 → (∀ b, H1 b = none → H b = none) → Tabs T H1 → H f = none → H1 f = some (LamO f (mk c') body) → H1 c' = some (CodeO c' (mk c').qual) → Q (.ref f) H1
section
variable {X : Cx}
theorem pe_lamV {T : List (Addr × Str)} {c P : Addr} {params : Arguments} {body : Expr} {scope : Scope} {pos : Pos} (TB : TabB X.base X.mg c P) (hcode : X.env.code = .ref c)
    (hm : (P, X.env.qual ++ "<lambda>") ∈ T) (hu : ∀ p ∈ T, p.1 = P → p.2 = X.env.qual ++ "<lambda>") (hdef : defaultsOf params X.env = ([], []))
    (hfree : ∀ y ∈ scope.names, y.2 = .free → X.env.scope.names.lookup y.1 = some .cell ∨ X.env.scope.names.lookup y.1 = some .free) :
    PE X (.Lambda params body scope pos) (tLamV T (lamF X params scope) body) := by
  refine ⟨fun pins s σ H Q I h => ?_⟩
  obtain ⟨hT, h⟩ := h
  have hfr : ∀ y ∈ scope.names, y.2 = .free → ∃ c, X.env.cells.lookup y.1 = some c := fun y hy e => (hfree y hy e).elim (fun z => I.ok.has _ (.inl z)) fun z => I.ok.has _ (.inr z)
  exact lam_makeT I TB hcode hm hu hT hdef hfr fun f c' H1 s' I1 eN nn T1 f0 f1 c1 => ⟨.ref f, H1, I1, rfl, h f c' H1 eN nn T1 f0 f1 c1⟩
end
/-! ### defs whose promise stands on pins -/
structure FnD (P : Program) (w : World) (K : PySem.W.Frag) (mg : Str → Option Value) (base : Heap) (k : Nat) (f : Addr) (fd : FuncData) (ps : List Str) (sp : Pins → Sp) : Prop where
  len : ∀ D vs H Q, sp D vs H Q L2.E0 → vs.length = ps.length
  run : ∀ (D : Pins) (B : Around) (outer : List Env) (s : Shared) (H : Hp) (args : Args) (us : List Value) (vs : List V) (Q : VK), Room k B → Env0 P w K mg base B outer s H →
    BindsTo s fd args (ps.zip us) → Vals vs us → Dep D outer s H → sp D vs H Q L2.E0 → codeAny (model P w) B (.call (.ref f) args) (CR L2.CX0 outer P w H s Q L2.E0) s
/-- THE RULE for such a def; c: its code object -/
theorem fnd_of {P : Program} {w : World} {K : PySem.W.Frag} {mg : Str → Option Value} {base : Heap} {x qual : Str} {st : Stmt} {f c : Addr} {N ps : List Str} {k : Nat} {sp : Pins → Sp} {oc : Value} {od : Option Addr} {kV doc pm : Value} {an : Option Addr} {ct : Value} {osl : Array (Option Value)}
    (lk : K.lookup f = some ⟨oc, od, .func (PySem.W.fnOf x qual (L2.defArgs st) (L2.defBody st) (L2.defScope st) .none kV doc pm an (.ref c) ct), osl⟩) (hcd : PySem.W.codeIn K (.ref c) qual = true)
    (S : FnScope N ps (L2.defScope st)) (len : ∀ D vs H Q, sp D vs H Q L2.E0 → vs.length = ps.length)
    (body : ∀ (D : Pins) (B : Around) (outer : List Env) (s : Shared) (H : Hp) (vs : List V) (Q : VK), Room k (B.deeper (envOfC qual (L2.defScope st) s.heap.objs.size f (.ref c))) → Dep D outer s H → sp D vs H Q L2.E0 →
      ∃ t, PSs (cxOf L2.CX0 P w K mg base N qual (L2.defScope st) f (.ref c) B outer s H L2.E0).nox (L2.defBody st) t ∧ t { nx := fun _ H' => Q .non H', rt := Q } (start N vs) H) :
    FnD P w K mg base (k + 1) f (PySem.W.fnOf x qual (L2.defArgs st) (L2.defBody st) (L2.defScope st) .none kV doc pm an (.ref c) ct) ps sp := by
  refine ⟨len, fun D B outer s H args us vs Q hr e0 hb r d hsp => ?_⟩
  have hl := len _ _ _ _ hsp
  have KX : K.In s.heap := e0.mod.kin.keeps fun b o e => (e0.bs b o e).1
  have lim : s.heap.NoLimit := e0.mod.nolimit.keeps fun b o e => (e0.bs b o e).1
  have kinds : ∀ y ∈ ps.zip us, (L2.defScope st).names.lookup y.1 = some .local ∨ ((L2.defScope st).names.lookup y.1 = some .cell ∧ ((cellsFrom (s.heap.objs.size + 1) (L2.defScope st).names []).lookup y.1).isSome = true) := by
    rintro ⟨n, v⟩ hy
    exact (S.par n (List.of_mem_zip hy).1).imp id fun q => ⟨q, PySem.W.cellsFrom_some _ _ _ (.inl q)⟩
  refine codeAny_call_function hr.depth (KX _ _ lk) rfl S.co S.gen rfl (PySem.W.codeRec_of KX hcd) (hb _ _ _ _ ?_)
  refine wpAny_newFunctionEnv_cells S.kind kinds fun env he s1 z => ?_
  subst he
  refine ⟨lim.keeps z.toInCall.keep, codeAny_func ?_⟩
  obtain ⟨t, ht, hq⟩ := body D B outer s H vs Q (hr.deeper _) d hsp
  have I := inv_start (CX := L2.CX0) (E := L2.E0) S hr.hd e0 hl r z
  refine wpAny_mono (ht.nox.run [] s1 (start N vs) H _ I hq) (fun fl s' hs => ?_) fun e s' hs => hs
  match fl, hs with
  | .ret u, ⟨v, σ', H', J, rv, q⟩ => exact ⟨v, H', J.os, J.bare, J.base, J.hok, rv, q⟩
  | .next, ⟨σ', H', J, q⟩ => exact ⟨V.non, H', J.os, J.bare, J.base, J.hok, rfl, q⟩
  | .brk, ⟨_, _, _, q⟩ => exact False.elim q
  | .cont, ⟨_, _, _, q⟩ => exact False.elim q
section
variable {X : Cx} {k : Nat} {f : Addr} {fd : FuncData} {ps : List Str} {sp : Pins → Sp} {x : Str} {p pos : Pos} {e : Expr} {es : List Expr} {t : TA} {D0 : Pins}
/-- f(e, ..), what stands for D0 and the cells cl of the running def -/
def tDCall (D0 : Pins) (cl : List (Str × Addr)) (fr : List Str) (js : List Nat) (sp : Pins → Sp) (t : TA) : TE := fun σ H Q => t σ H fun vs H1 => ∀ D1 : Pins, CellD D1 cl fr (js.map (slotAt σ)) → sp (D0 ++ D1) vs H1 Q L2.E0
theorem pe_dcall {cl : List (Str × Addr)} {fr : List Str} {js : List Nat} (F : FnD X.prog X.w X.K X.mg X.base k f fd ps sp) (hr : Room k X.A) (hx : X.ex = []) (hfn : ∀ x, X.fn x = true) (d : Dep D0 X.outer X.s_0 X.H_0) (cp : X.Ok → Caps X cl fr js)
    (hg : Gl X x) (hm : X.mg x = some (.ref f)) (hk : PySem.W.keepIn X.K (.ref f) = true) (hb : L2.Binds X.K fd ps [])
    (ha : PA X (e :: es) t) (hdb : (x == ("__debug__" : Str)) = false := by decide) (he : starEach (e :: es) X.env = (false, eval e X.env) :: starEach es X.env := by rfl) (hpl : (backTo pos (starEach es X.env)).any (·.1) = false := by rfl) :
    PE X (.Call (.Name x p) (e :: es) [] pos) (tDCall D0 cl fr js sp t) := by
  refine ⟨fun pins s σ H Q I h => wpAny_Call_Name_kw (ld_glob I hg hm ?_ hdb)⟩
  refine PySem.W.callWith_K (h₀ := X.base) I.ok.mod.kin hk (thn (ha.run pos pins s σ H _ I h) fun us s1 ⟨vs, H1, I1, r, q⟩ => ⟨I1.kIn, ?_⟩) he hpl
  obtain ⟨D1, d1, C1⟩ := own_cells I1 hx hfn (cp I1.ok)
  have hq := q D1 C1
  have hl : (us ++ []).length = ps.length := by
    rw [List.append_nil, ← r.length]
    exact F.len _ _ _ _ hq
  have hb' := hb s1 us I1.kIn hl
  rw [List.append_nil] at hb'
  refine wpAny_call (codeAny_mono (F.run (D0 ++ D1) X.A X.stack s1 H1 ⟨us, []⟩ us vs Q hr I1.env0 hb' r ((d.go hx I1).app d1) hq) fun q s' hq => ?_)
  match q, hq with
  | .error _, hq => exact False.elim hq
  | .ok (.ret _), hq => exact I1.after hq
  | .ok .next, hq => exact False.elim hq
  | .ok .brk, hq => exact False.elim hq
  | .ok .cont, hq => exact False.elim hq
end
end KT

namespace KT
open PySem PySem.Spec PyProof.Rows L2 NdefX LamX
/-- a promise that needs no pins is one of the plain kind -/
theorem FnD.ok {P : Program} {w : World} {K : PySem.W.Frag} {mg : Str → Option Value} {base : Heap} {k : Nat} {f : Addr} {fd : FuncData} {ps : List Str} {sp : Sp} (F : FnD P w K mg base k f fd ps (fun _ => sp)) (h0 : ∀ vs H Q E, sp vs H Q E → sp vs H Q L2.E0) : FnOk P w K mg base L2.CX0 k f fd ps sp := by
  refine ⟨fun vs H Q E h => F.len [] vs H Q (h0 _ _ _ _ h), fun B outer s H args us vs Q E hr e0 hb r h => codeAny_mono (F.run [] B outer s H args us vs Q hr e0 hb r Dep.nil (h0 _ _ _ _ h)) fun q s' hq => ?_⟩
  match q, hq with
  | .error _, hq => exact False.elim hq
  | .ok (.ret _), hq => exact hq
  | .ok .next, hq => exact False.elim hq
  | .ok .brk, hq => exact False.elim hq
  | .ok .cont, hq => exact False.elim hq
theorem CellD.nil {D : Pins} : CellD D [] [] [] := ⟨rfl, fun y c e => (by cases e), fun x y c e => (by cases e), fun i y e => (by simp at e)⟩
theorem Caps.nil {X : Cx} : Caps X [] [] [] := ⟨fun y c e => (by cases e), fun y hy => (by cases hy), fun y hy => (by cases hy), rfl⟩
section
variable {P : Program} {w : World} {K : PySem.W.Frag} {mg : Str → Option Value} {base : Heap} {N ps fr : List Str} {ws : List (Option V)} {F : NF} {f : Addr} {k : Nat} {sp : Sp} {D : Pins} {body : Expr} {H0 : Hp}
theorem lam_callee (e1 : H0 f = some (LamO f F body)) (e2 : H0 F.c = some (CodeO F.c F.qual)) (S : NScope N ps fr F.scope) (hb : ∀ (pm ctv : Value) (us : List Value), us.length = ps.length → bindArgs (PySem.W.kla_fn F.name F.qual F.params body F.scope F.cl pm (.ref F.c) ctv) ⟨us, []⟩ = pure (ps.zip us))
    (len : ∀ vs H Q, sp vs H Q L2.E0 → vs.length = ps.length) (C : CellD D F.cl fr ws)
    (hbody : ∀ (A : Around) (outer : List Env) (s : Shared) (H : Hp) (vs : List V) (Q : VK), Room k (A.deeper (envF F f s.heap.objs.size)) → Dep D outer s H → sp vs H Q L2.E0 →
      ∃ t, PE (ncx L2.CX0 P w K mg base N F f A outer s H L2.E0) body t ∧ t (startF N vs ws) H Q) :
    ∃ EX : Exts, Callee P w K mg base (k + 1) f sp D EX ∧ ExOk EX H0 ∧ ∀ p ∈ EX, ∀ ps, p.2 ≠ HO.tbl ps := by
  refine ⟨[(f, LamO f F body), (F.c, CodeO F.c F.qual)], callee_lam S hb len List.mem_cons_self (List.mem_cons_of_mem _ List.mem_cons_self) C fun A outer s H vs Q hr d _ h => hbody A outer s H vs Q hr d h, fun p hp => ?_, fun p hp ps => ?_⟩
  · rcases List.mem_cons.mp hp with rfl | hp
    · exact e1
    · rcases List.mem_cons.mp hp with rfl | hp
      · exact e2
      · exact absurd hp (by simp)
  · rcases List.mem_cons.mp hp with rfl | hp
    · exact fun z => by
        unfold LamO at z
        cases z
    · rcases List.mem_cons.mp hp with rfl | hp
      · exact codeO_ne ps
      · exact absurd hp (by simp)
end
end KT

namespace KT
open PySem PySem.Spec PyProof.Rows L2
theorem vals_at : ∀ {xs : List V} {us : List Value}, xs.length = us.length → (∀ (i : Nat) (x : V) (u : Value), xs[i]? = some x → us[i]? = some u → L2.RelV x u) → Vals xs us
  | [], [], _, _ => .nil
  | [], _ :: _, h, _ => by simp at h
  | _ :: _, [], h, _ => by simp at h
  | x :: xs, u :: us, h, k => .cons (k 0 x u rfl rfl) (vals_at (by simpa using h) fun i y v e1 e2 => k (i + 1) y v (by simpa using e1) (by simpa using e2))
section
variable {X : Cx}
/-- the signs of a text, one by one -/
def signsV (z : Str) : List V := z.cps.toList.map fun c => V.str ⟨#[c]⟩
/-- list(text) -/
theorem call_listS (hc : X.calm = true) : CallR X (.type "list") (fun xs H Q => ∃ z : Str, xs = [.str z] ∧ z.cps.size ≤ sizeLine ∧ ∀ p, H p = none → Q (.ref p) (upd H p (.lst (signsV z)))) := by
  intro pins s σ H xs us Q I r h
  obtain ⟨z, rfl, hz, q⟩ := h
  obtain ⟨u, rfl, t, rfl⟩ := vals1 r
  refine PySem.call_list_str (I.ok.hd hc) z t (fun h' tk acc c hk e hi => ?_) hz
  have rv : Vals (signsV z) acc.toList := by
    refine vals_at ?_ fun i x u h1 h2 => ?_
    · unfold signsV
      rw [List.length_map, Array.length_toList, Array.length_toList]
      exact hi.1.symm
    · obtain ⟨c, u', hc', rfl⟩ := hi.2 i u (by rw [← h2, Array.getElem?_toList])
      unfold signsV at h1
      rw [List.getElem?_map, Array.getElem?_toList, hc'] at h1
      cases h1
      exact ⟨u', rfl⟩
  refine ⟨.ref s.heap.objs.size, upd H s.heap.objs.size (.lst (signsV z)), I.laid hk (Nat.le_refl _) (show ObjOk X.prog X.w _ _ _ (.lst (signsV z)) from ⟨?_, acc.toList, c, rv, ?_⟩), rfl, q _ (I.hok.fresh (Nat.le_refl _))⟩
  · unfold signsV
    rw [List.length_map, Array.length_toList]
    exact hz
  · rw [Array.toArray_toList]
    exact e
end
end KT

namespace S4
open PySem PySem.Spec PyProof.Rows L2 KT
open PySem.W (Frag)
open TL (tl tl_append)
theorem PurseAt.mono {H : Hp} {a : Addr} {n m : Nat} (h : PurseAt H a n) (l : n ≤ m) : PurseAt H a m := by
  obtain ⟨p0, p1, p2, p3, e, h0, h1, h1', h2, h2', h3, h3'⟩ := h
  exact ⟨p0, p1, p2, p3, e, h0, h1, h1', h2, by omega, h3, h3'⟩
theorem PurseAt.upd {H : Hp} {a b : Addr} {n : Nat} {o : HO} (h : PurseAt H a n) (l : a ≠ b) : PurseAt (upd H b o) a n := by
  obtain ⟨p0, p1, p2, p3, e, r⟩ := h
  exact ⟨p0, p1, p2, p3, by rw [upd_ne l]; exact e, r⟩
theorem PurseAt.ne {H : Hp} {a b : Addr} {n : Nat} (h : PurseAt H a n) (e : H b = none) : a ≠ b := by
  obtain ⟨p0, p1, p2, p3, e', _⟩ := h
  exact ne_of_none e' e
theorem KeepBut.upd_new {a b : Addr} {H H' : Hp} {o : HO} (k : KeepBut a H H') (n : H b = none) : KeepBut a H (upd H' b o) := fun c u e hc => by
  rw [upd_ne (ne_of_none e n)]
  exact k c u e hc
theorem isW_bent {b : Str} {s c : Nat} (h : IsW b) (hs : s < b.length) (hc : 97 ≤ c ∧ c ≤ 122) : IsW (cutS b none (some (s : Int)) ++ (⟨#[c]⟩ : Str) ++ cutS b (some ((s : Int) + 1)) none) := by
  obtain ⟨h1, h2, h3⟩ := h
  have e1 : (cutS b none (some (s : Int))).cps.toList = b.cps.toList.take s := by
    unfold cutS
    rw [HT.sIx_nat, HT.sIx_none]
    have : min s b.length - 0 = s := by omega
    rw [this]
    simp
  have e2 : (cutS b (some ((s : Int) + 1)) none).cps.toList = b.cps.toList.drop (s + 1) := by
    unfold cutS
    have e : ((s : Int) + 1) = ((s + 1 : Nat) : Int) := by omega
    rw [e, HT.sIx_nat, HT.sIx_none]
    have : min (s + 1) b.length = s + 1 := by omega
    rw [this]
    have l : b.cps.toList.length = b.length := Array.length_toList
    show (List.take _ _).toArray.toList = _
    rw [List.take_of_length_le (by rw [List.length_drop, l]; exact Nat.le_refl _)]
  have et : (cutS b none (some (s : Int)) ++ (⟨#[c]⟩ : Str) ++ cutS b (some ((s : Int) + 1)) none).cps.toList = b.cps.toList.take s ++ [c] ++ b.cps.toList.drop (s + 1) := by
    show tl _ = _
    rw [tl_append, tl_append]
    show (cutS b none (some (s : Int))).cps.toList ++ [c] ++ (cutS b (some ((s : Int) + 1)) none).cps.toList = _
    rw [e1, e2]
  have l : b.cps.toList.length = b.length := Array.length_toList
  have el : (cutS b none (some (s : Int)) ++ (⟨#[c]⟩ : Str) ++ cutS b (some ((s : Int) + 1)) none).length = b.length := by
    have q := congrArg List.length et
    rw [List.length_append, List.length_append, List.length_take, List.length_drop, l, List.length_singleton] at q
    have q2 : (cutS b none (some (s : Int)) ++ (⟨#[c]⟩ : Str) ++ cutS b (some ((s : Int) + 1)) none).cps.toList.length = (cutS b none (some (s : Int)) ++ (⟨#[c]⟩ : Str) ++ cutS b (some ((s : Int) + 1)) none).length := Array.length_toList
    omega
  refine ⟨by omega, by omega, fun x hx => ?_⟩
  rw [et] at hx
  rcases List.mem_append.mp hx with hx | hx
  · rcases List.mem_append.mp hx with hx | hx
    · exact h3 x (List.mem_of_mem_take hx)
    · rw [List.mem_singleton.mp hx]
      exact hc
  · exact h3 x (List.mem_of_mem_drop hx)
theorem cutS_len (z : Str) (lo hi : Option Int) : (cutS z lo hi).length ≤ z.length := by
  have l : z.cps.toList.length = z.length := Array.length_toList
  have e : (cutS z lo hi).length = ((z.cps.toList.drop (HT.sIx z.length 0 lo)).take (HT.sIx z.length z.length hi - HT.sIx z.length 0 lo)).length := by
    unfold cutS Str.length
    rw [List.size_toArray]
  rw [e, List.length_take, List.length_drop]
  omega
theorem flat_map (zs : List Str) : (zs.map V.str).all flatV = true := by
  rw [List.all_eq_true]
  intro x hx
  obtain ⟨z, _, rfl⟩ := List.mem_map.mp hx
  rfl
theorem inV_str (z : Str) (zs : List Str) : inV (.str z) (zs.map V.str) = decide (z ∈ zs) := by
  unfold inV
  rw [List.any_map, Bool.eq_iff_iff, List.any_eq_true, decide_eq_true_eq]
  constructor
  · rintro ⟨x, hx, e⟩
    have e' : (x == z) = true := e
    rw [← eq_of_beq e']
    exact hx
  · intro h
    exact ⟨z, h, (show (z == z) = true from beq_self_eq_true z)⟩
section
variable {P : Program} {w : World} {K : Frag} {mg : Str → Option Value} {base : Heap}
def spWords : Sp := fun vs H Q _ => ∃ (a : Addr) (n : Nat) (many : Int), vs = [.ref a, .int many] ∧ PurseAt H a n ∧ n ≤ 800000000000 ∧ 1 ≤ many ∧ many ≤ 3 ∧
  ∀ (L : Addr) (zs : List Str) (H' : Hp), (∀ z ∈ zs, IsW z) → zs.Nodup → zs.length = many.toNat → KeepBut a H H' → H L = none → H' L = some (.lst (zs.map V.str)) → PurseAt H' a (n + 50) → Q (.ref L) H'
theorem nodup_len : ∀ (l D : List Str), l.Nodup → (∀ x ∈ l, x ∈ D) → l.length ≤ D.length
  | [], _, _, _ => Nat.zero_le _
  | x :: l, D, h, s => by
    obtain ⟨h1, h2⟩ := List.nodup_cons.mp h
    have hx := s x List.mem_cons_self
    have q := nodup_len l (D.erase x) h2 fun y hy => (List.mem_erase_of_ne (fun e => h1 (by rw [← e]; exact hy))).mpr (s y (List.mem_cons_of_mem _ hy))
    rw [List.length_erase_of_mem hx] at q
    have : 0 < D.length := List.length_pos_of_mem hx
    rw [List.length_cons]
    omega
def letters : List Str := (List.range 26).map fun j => (⟨#[97 + j]⟩ : Str)
theorem letters_nd : letters.Nodup := by decide +kernel
theorem abc_signs : signsV abc = letters.map V.str := by decide +kernel
theorem letters_w {y : Str} (h : y ∈ letters) : IsW y := by
  obtain ⟨j, hj, rfl⟩ := List.mem_map.mp h
  have := List.mem_range.mp hj
  refine ⟨by show 1 ≤ 1; omega, by show 1 ≤ 8; omega, fun c hc => ?_⟩
  have hc' : c ∈ [97 + j] := hc
  have := List.mem_singleton.mp hc'
  omega
/-- a letter that none of a few words is -/
theorem free_letter (zs : List Str) (h : zs.length ≤ 3) : ∃ y r, letters.filter (fun z => decide (z ∉ zs)) = y :: r := by
  cases e : letters.filter (fun z => decide (z ∉ zs)) with
  | cons y r => exact ⟨y, r, rfl⟩
  | nil =>
    have q := nodup_len letters zs letters_nd fun x hx => by
      refine Classical.byContradiction fun n => ?_
      have : x ∈ letters.filter (fun z => decide (z ∉ zs)) := List.mem_filter.mpr ⟨hx, decide_eq_true n⟩
      rw [e] at this
      cases this
    have : letters.length = 26 := by decide
    omega
theorem filter_snoc' {α : Type} (p : α → Bool) (l : List α) (i : Nat) (x : α) (h : l[i]? = some x) : (l.take (i + 1)).filter p = if p x then (l.take i).filter p ++ [x] else (l.take i).filter p := by
  rw [List.take_add_one, h, List.filter_append]
  by_cases c : p x <;> simp [c]
theorem nodup_snoc {zs : List Str} {y : Str} (h : zs.Nodup) (n : y ∉ zs) : (zs ++ [y]).Nodup := by
  rw [List.nodup_append]
  refine ⟨h, by simp, fun a ha b hb e => ?_⟩
  rw [List.mem_singleton.mp hb] at e
  exact n (e ▸ ha)
theorem ok_words {f fw fd_ fm : Addr} {fd fdw fdd fdm : FuncData} (T : Top K mg "_law_words" sLWords pLWords f fd) (TW : Top K mg "_law_word" sLWord ["purse"] fw fdw) (TD : Top K mg "_law_draw" sLDraw ["purse", "many"] fd_ fdd)
    (TM : Top K mg "_law_mixed" sLMixed ["seed", "spin", "at"] fm fdm) (B : Blt mg) : FnOk P w K mg base CX0 4 f fd pLWords spWords := by
  have GD : FnOk P w K mg base CX0 2 fd_ fdd ["purse", "many"] spDraw := ok_draw TD TM B
  have GW : FnOk P w K mg base CX0 3 fw fdw ["purse"] spWord := ok_word TW TD TM B
  refine T.F.ok scLWords (fun vs H Q E h => ?_) (fun cdv A outer s H vs Q E hr h => ?_)
  · obtain ⟨_, _, _, rfl, _⟩ := h
    rfl
  · obtain ⟨a, n, many, rfl, hp, hn, hm1, hm2, k⟩ := h
    have hr2 : Room 2 _ := hr.mono (by decide)
    refine ⟨_, (pss_cons (ps_par (i := 2) (j := 3) rfl scLWords.nd rfl rfl (by decide) rfl rfl (pa_cons (pe_call GW hr rfl TW.g TW.F.kp TW.b .nil pass0 (pa_cons (pv 0) pa_nil)) (pa_cons (pe_cmpR op_eq (pe_call GD hr2 rfl TD.g TD.F.kp TD.b .nil pass0 (pa_cons (pv 0) (pa_cons pe_int pa_nil))) pe_int (nomark _)) pa_nil)) (by rfl))
      (pss_cons (ps_asg (pe_tup (pa_cons (pe_call GD hr2 rfl TD.g TD.F.kp TD.b .nil pass0 (pa_cons (pv 0) (pa_cons (pe_callB call_len_str (by rfl) B.len PySem.boot_len (pa_cons (pv 2) pa_nil)) pa_nil))) (pa_cons (pe_lst pa_nil) pa_nil))) (pg_tup (by rfl) (pgs_cons (pg_name (i := 4) scLWords.nd rfl (Or.inl rfl)) (pgs_cons (pg_name (i := 5) scLWords.nd rfl (Or.inr rfl)) pgs_nil))))
      (pss_cons (ps_for PassesOwn.never rfl (pi_range1 (by rfl) B.range (pa_cons (pv 1) pa_nil)) (pg_name (i := 6) scLWords.nd rfl (Or.inl rfl))
        (pss_cons (ps_set (i := 7) scLWords.nd rfl (Or.inl rfl) (pe_op op_add_str (pe_op op_add_str (pe_slice sl_str (pv 2) po_none (po_some (pv 4))) (pe_ix ix_str pe_str (pe_call GD hr2 rfl TD.g TD.F.kp TD.b .nil pass0 (pa_cons (pv 0) (pa_cons pe_int pa_nil))) (fun _ _ => rfl))) (pe_slice sl_str (pv 2) (po_some (pe_op op_add (pv 4) pe_int)) po_none)))
      (pss_cons (ps_if (pt_not (pt_val (pv 3))) (pss_one (ps_set (i := 7) scLWords.nd rfl (Or.inl rfl) (pe_call GW hr rfl TW.g TW.F.kp TW.b .nil pass0 (pa_cons (pv 0) pa_nil)))) pss_nil)
      (pss_cons (ps_if (pt_cmpR op_in_seq (pv 7) (pv 5) (by rfl))
            (pss_one (ps_set (i := 7) scLWords.nd rfl (Or.inl rfl) (pe_ix ix_list (pe_lc (own := [("letter", 8)]) (g := gName 8) rfl scLWords.nd (pi_list (pe_callTy (call_listS rfl) (by rfl) B.list (by decide +kernel) (pa_cons pe_str pa_nil))) (blkOk_by (N := nLWords) (sc := defScope sLWords) (by decide +kernel)) (fun _ _ _ _ _ => pg_name (i := 8) scLWords.nd rfl (Or.inl rfl)) (fun _ _ _ _ _ => pts_one (pt_cmpR (show OpR _ _ (rIn K true) from op_notIn_seq) (pv 8) (pv 5) (by rfl))) (fun _ _ _ _ _ => (pv 8))) pe_int (fun _ _ => rfl)))) pss_nil)
      (pss_one (ps_expr (pe_bm PySem.F.plainAttrs_list PySem.F.slot_list_append PySem.F.type_list_append mt_append (pv 5) (pa_cons (pv 7) pa_nil))))))))
      (pss_one (ps_ret (pv 5)))))), ?_⟩
    refine ⟨_, rfl, a, n, rfl, hp, by omega, fun b H1 hb kb1 hp1 => ?_⟩
    obtain ⟨b1, b2, b3⟩ := id hb
    refine ⟨_, rfl, a, n + 10, 3, rfl, hp1, by omega, by decide, by decide, fun d2 H2 c0 c1 off2 hp2 => ⟨rfl, _, _, rfl, ?_⟩⟩
    have kb2 : KeepBut a H H2 := kb1.trans (.of_off off2)
    refine ⟨_, rfl, _, rfl, _, rfl, by rw [sizeLine_eq]; omega, a, n + 11, _, rfl, hp2, by omega, by omega, by omega, fun s0 H3 e0 e1 off3 hp3 => ?_⟩
    have kb3 : KeepBut a H H3 := kb2.trans (.of_off off3)
    obtain ⟨s, rfl⟩ := Int.eq_ofNat_of_zero_le e0
    refine ⟨by show 0 ≤ sizeLine; exact Nat.zero_le _, fun L hL => ⟨by show 2 ≤ sizeLine; rw [sizeLine_eq]; omega, fun T hT => ?_⟩⟩
    have nLa : a ≠ L := hp3.ne hL
    have nHL : H L = none := kb3.free hL nLa.symm
    have nLT : L ≠ T := ne_of_none upd_same hT
    have nT : H3 T = none := by
      rw [upd_ne nLT.symm] at hT
      exact hT
    have nHT : H T = none := kb3.free nT (hp3.ne nT).symm
    have hp4 := (hp3.upd (o := .lst []) nLa).upd (b := T) (o := .tup [.int (s : Nat), .ref L]) (hp3.ne nT)
    have kb4 : KeepBut a H (upd (upd H3 L (.lst [])) T (.tup [.int (s : Nat), .ref L])) := (kb3.upd_new nHL).upd_new nHT
    refine ⟨T, _, rfl, SqT.of upd_same, rfl, _, _, rfl, _, _, rfl, rfl, ?_⟩
    refine ⟨_, rfl, many, rfl, by omega, by omega, ?_⟩
    refine for_range (lo := 0) (n := many.toNat) (fun i σ H' => ∃ (v6 v7 v8 : Option V) (zs : List Str), σ = [some (.ref a), some (.int many), some (.str b), some (.bl (decide (V.int d2 = V.int 0))), some (.int (s : Nat)), some (.ref L), v6, v7, v8] ∧ (∀ z ∈ zs, IsW z) ∧ zs.Nodup ∧ zs.length = i ∧ KeepBut a H H' ∧ H' L = some (.lst (zs.map V.str)) ∧ PurseAt H' a (n + 12 + 11 * i))
      ⟨none, none, none, [], rfl, fun z hz => absurd hz (by simp), List.nodup_nil, rfl, kb4, by rw [upd_ne nLT, upd_same]; rfl, hp4.mono (by omega)⟩ ?_ ?_
    · rintro i σ H' hi ⟨v6, v7, v8, zs, rfl, hzs, nd, hl, kb', eL', hp'⟩
      have hi3 : i < 3 := by omega
      refine ⟨_, rfl, _, rfl, _, rfl, b, rfl, by rw [sizeLine_eq]; omega, _, rfl, a, _, 26, rfl, hp', by omega, by decide, by decide, fun d5 H5 g0 g1 off5 hp5 => ?_⟩
      obtain ⟨j, rfl⟩ := Int.eq_ofNat_of_zero_le g0
      have hj : j < 26 := by omega
      have eL5 : H5 L = some (.lst (zs.map V.str)) := by rw [off5 L nLa.symm]; exact eL'
      have kb5 : KeepBut a H H5 := kb'.trans (.of_off off5)
      have lc1 := cutS_len b none (some (s : Int))
      have lc2 := cutS_len b (some ((s : Int) + 1)) none
      have hz : IsW (cutS b none (some (s : Int)) ++ (⟨#[97 + j]⟩ : Str) ++ cutS b (some ((s : Int) + 1)) none) := isW_bent hb (by omega) (by omega)
      refine ⟨abc, _, _, rfl, rfl, by decide, atI_nat (abc_at j hj), _, _, rfl, rfl, by rw [sizeLine_eq]; show _ + 1 ≤ _; omega, ?_⟩
      refine ⟨_, rfl, _, rfl, _, _, rfl, rfl, _, rfl, b, rfl, by rw [sizeLine_eq]; omega, _, _, rfl, rfl, by rw [sizeLine_eq, strLen_append]; show _ + 1 + _ ≤ _; omega, ?_⟩
      generalize decide (V.int d2 = V.int 0) = nb
      cases nb with
      | false =>
        refine ⟨_, rfl, _, rfl, iteT ⟨_, rfl, a, _, rfl, hp5, by omega, fun z H6 hz6 kb56 hp6 => ?_⟩⟩
        have hz := hz6
        have kb6 : KeepBut a H H6 := kb5.trans kb56
        have eL3 : H6 L = some (.lst (zs.map V.str)) := kb56 _ _ eL5 nLa.symm
        have hp7 : PurseAt H6 a (n + 12 + 11 * (i + 1)) := hp6.mono (by omega)
        refine ⟨_, rfl, _, rfl, L, _, rfl, .inl (SqL.of eL3), rfl, flat_map zs, _, rfl, ?_⟩
        rw [inV_str]
        refine ite2 (fun hin => ?_) (fun hin => ?_)
        · refine ⟨abc, rfl, by rw [sizeLine_eq]; decide, fun p hpn => ⟨p, rfl, ⟨_, SqL.of upd_same⟩, fun D hD => ?_⟩⟩
          have nLp : L ≠ p := ne_of_none eL3 hpn
          have npD : p ≠ D := ne_of_none upd_same hD
          have nLD : L ≠ D := ne_of_none (show upd _ p _ L = _ by rw [upd_ne nLp]; exact eL3) hD
          have nap := hp7.ne hpn
          have naD := (hp7.upd (o := .lst (signsV abc)) nap).ne hD
          refine lc_list (K := K) (xs := signsV abc) (fun i H' => H' = upd (upd H6 p (.lst (signsV abc))) D (.lst (((letters.take i).filter fun z => decide (z ∉ zs)).map V.str))) rfl ?_ ?_ ?_
          · rintro i H' hi rfl
            exact SqL.of (by rw [upd_ne npD, upd_same])
          · rintro i x H' hx rfl
            rw [abc_signs, List.getElem?_map] at hx
            obtain ⟨y, hy, rfl⟩ := Option.map_eq_some_iff.mp hx
            refine ⟨rfl, _, rfl, _, rfl, L, _, rfl, .inl (SqL.of (by rw [upd_ne nLD, upd_ne nLp]; exact eL3)), rfl, flat_map zs, _, rfl, ?_⟩
            rw [inV_str, filter_snoc' _ _ _ _ hy]
            by_cases c : y ∈ zs
            · rw [decide_eq_true c, decide_eq_false (not_not_intro c)]
              exact iteF rfl
            · rw [decide_eq_false c, decide_eq_true c]
              refine iteT ⟨_, rfl, _, upd_same, ?_, ?_⟩
              · rw [List.length_map, sizeLine_eq]
                have := List.length_filter_le (fun z => decide (z ∉ zs)) (letters.take i)
                have l26 : letters.length = 26 := by decide
                rw [List.length_take, l26] at this
                omega
              · rw [upd_upd, if_pos rfl, List.map_append]
                rfl
          · rintro H' rfl
            obtain ⟨y, r, hy⟩ := free_letter zs (by omega)
            have l26 : (signsV abc).length = letters.length := by rw [abc_signs, List.length_map]
            rw [l26, List.take_length, hy]
            have hm : y ∈ letters.filter (fun z => decide (z ∉ zs)) := by rw [hy]; exact List.mem_cons_self
            obtain ⟨hm1, hm2⟩ := List.mem_filter.mp hm
            have ny : y ∉ zs := of_decide_eq_true hm2
            have eL7 : upd (upd H6 p (.lst (signsV abc))) D (.lst ((y :: r).map V.str)) L = some (.lst (zs.map V.str)) := by rw [upd_ne nLD, upd_ne nLp]; exact eL3
            refine ⟨D, _, _, _, rfl, rfl, SqL.of upd_same, atI_nat (j := 0) rfl, ?_⟩
            refine ⟨_, rfl, .inl ⟨rfl, _, SqL.of eL7⟩, _, rfl, L, _, _, rfl, rfl, eL7, by rw [List.length_map, sizeLine_eq]; omega, ?_⟩
            refine ⟨_, _, _, zs ++ [y], rfl, fun z hz' => (List.mem_append.mp hz').elim (hzs z) fun q => (List.mem_singleton.mp q) ▸ letters_w hm1, nodup_snoc nd ny, by rw [List.length_append, hl]; rfl, ?_, by rw [upd_same, List.map_append]; rfl, ?_⟩
            · exact ((kb6.upd_new (kb6.free hpn nap.symm)).upd_new (kb6.free (by rw [upd_ne npD.symm] at hD; exact hD) naD.symm)).upd_new nHL
            · exact (((hp7.upd nap).upd naD).upd nLa).mono (Nat.le_refl _)
        · refine ⟨_, rfl, .inl ⟨rfl, _, SqL.of eL3⟩, _, rfl, L, _, _, rfl, rfl, eL3, by rw [List.length_map, sizeLine_eq]; omega, ?_⟩
          refine ⟨_, _, _, zs ++ [_], rfl, fun z hz' => (List.mem_append.mp hz').elim (hzs z) fun q => (List.mem_singleton.mp q) ▸ hz, nodup_snoc nd (of_decide_eq_false (by simpa using hin)), by rw [List.length_append, hl]; rfl, kb6.upd_new nHL, by rw [upd_same, List.map_append]; rfl, hp7.upd nLa⟩
      | true =>
        have kb6 := kb5
        have eL3 := eL5
        have hp7 : PurseAt H5 a (n + 12 + 11 * (i + 1)) := hp5.mono (by omega)
        refine ⟨_, rfl, _, rfl, iteF ?_⟩
        refine ⟨_, rfl, _, rfl, L, _, rfl, .inl (SqL.of eL3), rfl, flat_map zs, _, rfl, ?_⟩
        rw [inV_str]
        refine ite2 (fun hin => ?_) (fun hin => ?_)
        · refine ⟨abc, rfl, by rw [sizeLine_eq]; decide, fun p hpn => ⟨p, rfl, ⟨_, SqL.of upd_same⟩, fun D hD => ?_⟩⟩
          have nLp : L ≠ p := ne_of_none eL3 hpn
          have npD : p ≠ D := ne_of_none upd_same hD
          have nLD : L ≠ D := ne_of_none (show upd _ p _ L = _ by rw [upd_ne nLp]; exact eL3) hD
          have nap := hp7.ne hpn
          have naD := (hp7.upd (o := .lst (signsV abc)) nap).ne hD
          refine lc_list (K := K) (xs := signsV abc) (fun i H' => H' = upd (upd H5 p (.lst (signsV abc))) D (.lst (((letters.take i).filter fun z => decide (z ∉ zs)).map V.str))) rfl ?_ ?_ ?_
          · rintro i H' hi rfl
            exact SqL.of (by rw [upd_ne npD, upd_same])
          · rintro i x H' hx rfl
            rw [abc_signs, List.getElem?_map] at hx
            obtain ⟨y, hy, rfl⟩ := Option.map_eq_some_iff.mp hx
            refine ⟨rfl, _, rfl, _, rfl, L, _, rfl, .inl (SqL.of (by rw [upd_ne nLD, upd_ne nLp]; exact eL3)), rfl, flat_map zs, _, rfl, ?_⟩
            rw [inV_str, filter_snoc' _ _ _ _ hy]
            by_cases c : y ∈ zs
            · rw [decide_eq_true c, decide_eq_false (not_not_intro c)]
              exact iteF rfl
            · rw [decide_eq_false c, decide_eq_true c]
              refine iteT ⟨_, rfl, _, upd_same, ?_, ?_⟩
              · rw [List.length_map, sizeLine_eq]
                have := List.length_filter_le (fun z => decide (z ∉ zs)) (letters.take i)
                have l26 : letters.length = 26 := by decide
                rw [List.length_take, l26] at this
                omega
              · rw [upd_upd, if_pos rfl, List.map_append]
                rfl
          · rintro H' rfl
            obtain ⟨y, r, hy⟩ := free_letter zs (by omega)
            have l26 : (signsV abc).length = letters.length := by rw [abc_signs, List.length_map]
            rw [l26, List.take_length, hy]
            have hm : y ∈ letters.filter (fun z => decide (z ∉ zs)) := by rw [hy]; exact List.mem_cons_self
            obtain ⟨hm1, hm2⟩ := List.mem_filter.mp hm
            have ny : y ∉ zs := of_decide_eq_true hm2
            have eL7 : upd (upd H5 p (.lst (signsV abc))) D (.lst ((y :: r).map V.str)) L = some (.lst (zs.map V.str)) := by rw [upd_ne nLD, upd_ne nLp]; exact eL3
            refine ⟨D, _, _, _, rfl, rfl, SqL.of upd_same, atI_nat (j := 0) rfl, ?_⟩
            refine ⟨_, rfl, .inl ⟨rfl, _, SqL.of eL7⟩, _, rfl, L, _, _, rfl, rfl, eL7, by rw [List.length_map, sizeLine_eq]; omega, ?_⟩
            refine ⟨_, _, _, zs ++ [y], rfl, fun z hz' => (List.mem_append.mp hz').elim (hzs z) fun q => (List.mem_singleton.mp q) ▸ letters_w hm1, nodup_snoc nd ny, by rw [List.length_append, hl]; rfl, ?_, by rw [upd_same, List.map_append]; rfl, ?_⟩
            · exact ((kb6.upd_new (kb6.free hpn nap.symm)).upd_new (kb6.free (by rw [upd_ne npD.symm] at hD; exact hD) naD.symm)).upd_new nHL
            · exact (((hp7.upd nap).upd naD).upd nLa).mono (Nat.le_refl _)
        · refine ⟨_, rfl, .inl ⟨rfl, _, SqL.of eL3⟩, _, rfl, L, _, _, rfl, rfl, eL3, by rw [List.length_map, sizeLine_eq]; omega, ?_⟩
          refine ⟨_, _, _, zs ++ [_], rfl, fun z hz' => (List.mem_append.mp hz').elim (hzs z) fun q => (List.mem_singleton.mp q) ▸ hz, nodup_snoc nd (of_decide_eq_false (by simpa using hin)), by rw [List.length_append, hl]; rfl, kb6.upd_new nHL, by rw [upd_same, List.map_append]; rfl, hp7.upd nLa⟩
    · rintro σ H' ⟨v6, v7, v8, zs, rfl, hzs, nd, hl, kb', eL', hp'⟩
      exact ⟨_, rfl, k L zs H' hzs nd hl kb' nHL eL' (hp'.mono (by omega))⟩
end
end S4

namespace S4
open PySem PySem.Spec PyProof.Rows L2 KT
open PySem.W (Frag)
structure Plains (zs : List Str) : Prop where
  so : sortedS zs = true
  nd : zs.Nodup
  w : ∀ z ∈ zs, IsW z
  l1 : 1 ≤ zs.length
  l3 : zs.length ≤ 3
def isWB (z : Str) : Bool := decide (1 ≤ z.length) && decide (z.length ≤ 8) && z.cps.toList.all fun c => decide (97 ≤ c) && decide (c ≤ 122)
theorem isWB_ok {z : Str} (h : isWB z = true) : IsW z := by
  unfold isWB at h
  simp only [Bool.and_eq_true, decide_eq_true_eq, List.all_eq_true] at h
  exact ⟨h.1.1, h.1.2, h.2⟩
def plainsB (zs : List Str) : Bool := sortedS zs && decide zs.Nodup && zs.all isWB && decide (1 ≤ zs.length) && decide (zs.length ≤ 3)
theorem plainsB_ok {zs : List Str} (h : plainsB zs = true) : Plains zs := by
  unfold plainsB at h
  simp only [Bool.and_eq_true, decide_eq_true_eq, List.all_eq_true] at h
  exact ⟨h.1.1.1.1, h.1.1.1.2, fun z hz => isWB_ok (h.1.1.2 z hz), h.1.2, h.2⟩
def odds : List (List Str) := [["cut", "is", "then"], ["athens", "over", "then"], ["end", "over", "under"], ["back", "is", "on"]]
theorem odds_ok : (odds.all fun zs => [1, 2, 3].all fun m => plainsB (zs.take m)) = true := by decide +kernel
section
variable {P : Program} {w : World} {K : Frag} {mg : Str → Option Value} {base : Heap}
def spPlains : Sp := fun vs H Q _ => ∃ (a : Addr) (n : Nat) (most : Int), vs = [.ref a, .int most] ∧ PurseAt H a n ∧ n ≤ 700000000000 ∧ 1 ≤ most ∧ most ≤ 3 ∧
  ∀ (L : Addr) (zs : List Str) (H' : Hp), Plains zs → (zs.length : Int) ≤ most → KeepBut a H H' → H L = none → H' L = some (.lst (zs.map V.str)) → PurseAt H' a (n + 60) → Q (.ref L) H'
/-- what the draws stand upon -/
structure TDs (K : Frag) (mg : Str → Option Value) (fd_ fm fw fws fo : Addr) (fdd fdm fdw fdws fdo : FuncData) : Prop where
  TD : Top K mg "_law_draw" sLDraw ["purse", "many"] fd_ fdd
  TM : Top K mg "_law_mixed" sLMixed ["seed", "spin", "at"] fm fdm
  TW : Top K mg "_law_word" sLWord ["purse"] fw fdw
  TWs : Top K mg "_law_words" sLWords pLWords fws fdws
  TO : Top K mg "_law_one_of" sLOneOf ["purse", "some"] fo fdo
  B : Blt mg
end
end S4

namespace S4
open PySem PySem.Spec PyProof.Rows L2 KT
open PySem.W (Frag)
def Ty.words : Ty → List Str
  | .w z => [z]
  | .n _ a b => a.words ++ b.words
theorem TK.of_keepBut {a : Addr} {n : Nat} {H H' : Hp} (k : KeepBut a H H') (p : PurseAt H a n) : TK H H' := fun q xs e => k q _ e fun z => by
  obtain ⟨_, _, _, _, e', _⟩ := p
  rw [z, e'] at e
  cases e
section
variable {P : Program} {w : World} {K : Frag} {mg : Str → Option Value} {base : Heap}
def spKind (d : Nat) : Sp := fun vs H Q _ => ∃ (a L : Addr) (n m : Nat) (zs : List Str), vs = [.ref a, .ref L, .int m] ∧ PurseAt H a n ∧ n + 3 * m ≤ 600000000000 ∧ L ≠ a ∧ H L = some (.lst (zs.map V.str)) ∧ Plains zs ∧ m ≤ d ∧
  ∀ (x : V) (t : Ty) (H' : Hp), TyAt H' x t → t.signs = m → (∀ z ∈ t.words, z ∈ zs) → KeepBut a H H' → PurseAt H' a (n + 3 * m + 1) → Q x H'

end
end S4

namespace S4
open PySem PySem.Spec PyProof.Rows L2 KT
open PySem.W (Frag)
/-! ### data: texts, numbers, None, tuples -/
/-- a text that may be met -/
def TxtOk (z : Str) : Prop := PyData.strOk z = true ∧ z.length ≤ 100
inductive D
  | s (z : Str)
  | i (n : Int)
  | o
  | t (l : List D)
mutual
inductive DAt (H : Hp) : V → D → Prop
  | s {z : Str} : TxtOk z → DAt H (.str z) (.s z)
  | i (n : Int) : DAt H (.int n) (.i n)
  | o : DAt H .non .o
  | t {p : Addr} {xs : List V} {ds : List D} : H p = some (.tup xs) → DsAt H xs ds → DAt H (.ref p) (.t ds)
inductive DsAt (H : Hp) : List V → List D → Prop
  | nil : DsAt H [] []
  | cons {v : V} {vs : List V} {d : D} {ds : List D} : DAt H v d → DsAt H vs ds → DsAt H (v :: vs) (d :: ds)
end
mutual
theorem DAt.mono {H H' : Hp} (k : TK H H') : ∀ {d : D} {v : V}, DAt H v d → DAt H' v d
  | .s _, _, .s h => .s h
  | .i _, _, .i n => .i n
  | .o, _, .o => .o
  | .t _, _, .t e h => .t (k _ _ e) (DsAt.mono k h)
theorem DsAt.mono {H H' : Hp} (k : TK H H') : ∀ {ds : List D} {vs : List V}, DsAt H vs ds → DsAt H' vs ds
  | [], _, .nil => .nil
  | _ :: _, _, .cons h r => .cons (DAt.mono k h) (DsAt.mono k r)
end
theorem DsAt.length {H : Hp} : ∀ {ds : List D} {vs : List V}, DsAt H vs ds → vs.length = ds.length
  | _, _, .nil => rfl
  | _, _, .cons _ r => by rw [List.length_cons, List.length_cons, r.length]
theorem DsAt.append {H : Hp} : ∀ {ds es : List D} {vs us : List V}, DsAt H vs ds → DsAt H us es → DsAt H (vs ++ us) (ds ++ es)
  | _, _, _, _, .nil, h => h
  | _, _, _, _, .cons a r, h => .cons a (r.append h)
theorem DsAt.at_ {H : Hp} : ∀ {ds : List D} {vs : List V}, DsAt H vs ds → ∀ {i : Nat} {v : V}, vs[i]? = some v → ∃ d, ds[i]? = some d ∧ DAt H v d
  | _, _, .nil, i, v, e => by simp at e
  | _, _, .cons h r, 0, v, e => by
    obtain rfl := Option.some.inj (show some _ = some v from e)
    exact ⟨_, rfl, h⟩
  | _, _, .cons h r, i + 1, v, e => r.at_ (i := i) (by simpa using e)
mutual
def D.py : D → PyData
  | .s z => .str z
  | .i n => .int n
  | .o => .none
  | .t l => .tuple (pyAll l)
def pyAll : List D → List PyData
  | [] => []
  | d :: r => d.py :: pyAll r
end
mutual
def D.dep : D → Nat
  | .s _ => 0
  | .i _ => 0
  | .o => 0
  | .t l => depAll l + 1
def depAll : List D → Nat
  | [] => 0
  | d :: r => max d.dep (depAll r)
end
mutual
def D.size : D → Nat
  | .s _ => 1
  | .i _ => 1
  | .o => 1
  | .t l => sizeAll l + 1
def sizeAll : List D → Nat
  | [] => 0
  | d :: r => d.size + sizeAll r
end
mutual
theorem DAt.py {K : Frag} {H : Hp} : ∀ {d : D} {v : V}, DAt H v d → Dp K H v d.py ∧ d.py.canLay0 = true ∧ d.py.depth = d.dep
  | .s z, _, .s h => ⟨.str _, by simp only [D.py, PyData.canLay0]; exact h.1, by simp only [D.py, PyData.depth, D.dep]⟩
  | .i _, _, .i n => ⟨.int _, by simp only [D.py, PyData.canLay0], by simp only [D.py, PyData.depth, D.dep]⟩
  | .o, _, .o => ⟨.non, by simp only [D.py, PyData.canLay0], by simp only [D.py, PyData.depth, D.dep]⟩
  | .t l, _, .t e h => by
    obtain ⟨h1, h2, h3⟩ := DsAt.py (K := K) h
    exact ⟨.tup (SqT.of e) h1, by simp only [D.py, PyData.canLay0]; exact h2, by simp only [D.py, PyData.depth, D.dep, h3]⟩
theorem DsAt.py {K : Frag} {H : Hp} : ∀ {ds : List D} {vs : List V}, DsAt H vs ds → DpAll K H vs (pyAll ds) ∧ PyData.canLayAll0 (pyAll ds) = true ∧ PyData.depthAll (pyAll ds) = depAll ds
  | [], _, .nil => ⟨.nil, by simp only [pyAll, PyData.canLayAll0], by simp only [pyAll, PyData.depthAll, depAll]⟩
  | _ :: _, _, .cons h r => by
    obtain ⟨a1, a2, a3⟩ := DAt.py (K := K) h
    obtain ⟨b1, b2, b3⟩ := DsAt.py (K := K) r
    exact ⟨.cons a1 b1, by simp only [pyAll, PyData.canLayAll0, a2, b2, Bool.and_self], by simp only [pyAll, PyData.depthAll, depAll, a3, b3]⟩
end
theorem DAt.shaped {K : Frag} {H : Hp} {d : D} {v : V} (h : DAt H v d) (l : d.dep ≤ 64) : SeqAt.shaped d.py = true := by
  obtain ⟨_, h2, h3⟩ := DAt.py (K := K) h
  unfold SeqAt.shaped
  rw [h2, h3, Bool.true_and]
  exact decide_eq_true l
theorem D.size_pos (d : D) : 1 ≤ d.size := by cases d <;> simp [D.size]
/-! ### types as data -/
def Ty.d : Ty → D
  | .w z => .s z
  | .n g a b => .t [.s g.str, a.d, b.d]
theorem isW_ok {z : Str} (h : IsW z) : TxtOk z := by
  refine ⟨?_, by have := h.2.1; omega⟩
  unfold PyData.strOk
  simp only [List.all_eq_true, Array.all_eq_true_iff_forall_mem, decide_eq_true_eq]
  intro c hc
  have := h.2.2 c (by simpa using hc)
  omega
theorem TyAt.d {H : Hp} {v : V} {t : Ty} (h : TyAt H v t) : DAt H v t.d := by
  induction h with
  | w h => exact .s (isW_ok h)
  | @n p g x y a b e _ _ i j => exact .t e (.cons (.s (by cases g <;> exact ⟨by decide +kernel, by decide +kernel⟩)) (.cons i (.cons j .nil)))
def sgOf (z : Str) : Option Sg := if z = "over" then some .ov else if z = "then" then some .th else if z = "under" then some .un else none
theorem sgOf_some {z : Str} {g : Sg} (h : sgOf z = some g) : z = g.str := by
  unfold sgOf at h
  split at h
  · cases h; assumption
  · split at h
    · cases h; assumption
    · split at h
      · cases h; assumption
      · cases h
theorem sgOf_str (g : Sg) : sgOf g.str = some g := by cases g <;> decide +kernel
end S4

namespace S4
open PySem PySem.Spec PyProof.Rows L2 KT
open PySem.W (Frag)
theorem isWB_of {z : Str} (h : IsW z) : isWB z = true := by
  unfold isWB
  simp only [Bool.and_eq_true, decide_eq_true_eq, List.all_eq_true]
  exact ⟨⟨h.1, h.2.1⟩, h.2.2⟩
def mkTy (l : List D) (r : List (Option Ty)) : Option Ty := match l, r with
  | [.s g, _, _], [_, some a, some b] => (sgOf g).map fun g => .n g a b
  | _, _ => none
mutual
def D.ty : D → Option Ty
  | .s z => if isWB z = true then some (.w z) else none
  | .i _ => none
  | .o => none
  | .t l => mkTy l (tyAll l)
def tyAll : List D → List (Option Ty)
  | [] => []
  | d :: r => d.ty :: tyAll r
end
def Ty.wok : Ty → Prop
  | .w z => IsW z
  | .n _ a b => a.wok ∧ b.wok
theorem TyAt.wok {H : Hp} {v : V} {t : Ty} (h : TyAt H v t) : t.wok := by
  induction h with
  | w h => exact h
  | n _ _ _ i j => exact ⟨i, j⟩
theorem Ty.ty_d (t : Ty) (h : t.wok) : t.d.ty = some t := by
  induction t with
  | w z =>
    simp only [Ty.d, D.ty]
    rw [if_pos (isWB_of h)]
  | n g a b i j => simp only [Ty.d, D.ty, tyAll, mkTy, i h.1, j h.2, sgOf_str, Option.map_some]
theorem mkTy_inv {l : List D} {r : List (Option Ty)} {t : Ty} (h : mkTy l r = some t) : ∃ g x y a b, l = [.s (Sg.str g), x, y] ∧ (∃ o, r = [o, some a, some b]) ∧ t = .n g a b := by
  unfold mkTy at h
  split at h
  · obtain ⟨g, h1, h2⟩ := Option.map_eq_some_iff.mp h
    exact ⟨g, _, _, _, _, by rw [sgOf_some h1], ⟨_, rfl⟩, h2.symm⟩
  · cases h
mutual
/-- a datum that is a type lies in the heap as that type -/
theorem DAt.ty {H : Hp} : ∀ {d : D} {v : V} {t : Ty}, DAt H v d → d.ty = some t → TyAt H v t
  | .s z, _, t, .s _, h => by
    simp only [D.ty] at h
    split at h
    · rename_i q
      cases h
      exact .w (isWB_ok q)
    · cases h
  | .i _, _, t, .i _, h => by simp only [D.ty] at h; cases h
  | .o, _, t, .o, h => by simp only [D.ty] at h; cases h
  | .t l, _, t, .t e hs, h => by
    simp only [D.ty] at h
    obtain ⟨g, x, y, a, b, rfl, ⟨o, hr⟩, rfl⟩ := mkTy_inv h
    simp only [tyAll] at hr
    have q := DsAt.ty hs
    cases hs with
    | cons h1 hs => cases hs with
      | cons h2 hs => cases hs with
        | cons h3 hs => cases hs with
          | nil =>
            cases h1
            injection hr with _ hr
            injection hr with e1 hr
            injection hr with e2 _
            exact .n e (q 1 _ _ _ rfl rfl e1) (q 2 _ _ _ rfl rfl e2)
theorem DsAt.ty {H : Hp} : ∀ {ds : List D} {vs : List V}, DsAt H vs ds → ∀ (j : Nat) (v : V) (d : D) (t : Ty), vs[j]? = some v → ds[j]? = some d → d.ty = some t → TyAt H v t
  | [], _, .nil, j, v, d, t, e, _, _ => by simp at e
  | _ :: _, _, .cons h r, 0, v, d, t, e1, e2, e3 => by
    obtain rfl := Option.some.inj (show some _ = some v from e1)
    obtain rfl := Option.some.inj (show some _ = some d from e2)
    exact DAt.ty h e3
  | _ :: _, _, .cons h r, j + 1, v, d, t, e1, e2, e3 => DsAt.ty r j v d t (by simpa using e1) (by simpa using e2) e3
end
/-! ### what a derivation tells -/
abbrev Told := List Ty × Ty
def madeO : Told → Option Told
  | (row, goal) => if row.length < 2 then none else some (row.dropLast, .n .ov goal (row.getLastD (.w "")))
def madeU : Told → Option Told
  | (a :: b :: r, goal) => some (b :: r, .n .un a goal)
  | _ => none
def thenM (x y : Told) : Told := (x.1 ++ y.1, .n .th x.2 y.2)
def usedAt (nm : Str) (p : Int) (x y : Told) : Option Told :=
  if 0 ≤ p then
    match y.1[p.toNat]? with
    | none => none
    | some k =>
      if nm = "over used" then some (y.1.take p.toNat ++ [.n .ov k x.2] ++ x.1 ++ y.1.drop (p.toNat + 1), y.2)
      else if nm = "under used" then some (y.1.take p.toNat ++ x.1 ++ [.n .un x.2 k] ++ y.1.drop (p.toNat + 1), y.2)
      else if k = x.2 then some (y.1.take p.toNat ++ x.1 ++ y.1.drop (p.toNat + 1), y.2) else none
  else none
def thenU (p : Int) (y : Told) : Option Told :=
  if 0 ≤ p then
    match y.1[p.toNat]?, y.1[p.toNat + 1]? with
    | some a, some b => some (y.1.take p.toNat ++ [.n .th a b] ++ y.1.drop (p.toNat + 2), y.2)
    | _, _ => none
  else none
def both (f : Told → Told → Option Told) : Option Told → Option Told → Option Told
  | some x, some y => f x y
  | _, _ => none
def placed (nm : Str) : Bool := decide (nm = "over used") || decide (nm = "under used") || decide (nm = "cut")
def tellOf (l : List D) (r : List (Option Told)) : Option Told := match l, r with
  | [.s nm, x], [_, rx] => if nm = "is" then x.ty.map fun k => ([k], k) else if nm = "over made" then rx.bind madeO else if nm = "under made" then rx.bind madeU else none
  | [.s nm, x, _], [_, rx, ry] => if nm = "then made" then both (fun a b => some (thenM a b)) rx ry else if nm = "then used" then (match x with | .i p => ry.bind (thenU p) | _ => none) else none
  | [.s nm, .i p, _, _], [_, _, rx, ry] => if placed nm = true then both (usedAt nm p) rx ry else none
  | _, _ => none
mutual
def D.tl : D → Option Told
  | .s _ => none
  | .i _ => none
  | .o => none
  | .t l => tellOf l (tlAll l)
def tlAll : List D → List (Option Told)
  | [] => []
  | d :: r => d.tl :: tlAll r
end
/-! ### the form of a knot -/
def D.formed : D → Bool
  | .t [.s nm, x] => if nm = "is" then x.ty.isSome else decide (nm = "over made") || decide (nm = "under made")
  | .t [.s nm, x, _] => decide (nm = "then made") || (decide (nm = "then used") && match x with | .i p => decide (0 ≤ p) | _ => false)
  | .t [.s nm, x, _, _] => placed nm && match x with | .i p => decide (0 ≤ p) | _ => false
  | _ => false
def D.parts : D → List D
  | .t [.s nm, x] => if nm = "is" then [] else [x]
  | .t [.s nm, x, y] => if nm = "then used" then [y] else [x, y]
  | .t [_, _, x, y] => [x, y]
  | _ => []
def allKOf (l : List D) (r : List Bool) : Bool := (D.t l).formed && match l, r with
  | [.s nm, _], [_, x] => if nm = "is" then true else x
  | [.s nm, _, _], [_, x, y] => if nm = "then used" then y else x && y
  | [_, _, _, _], [_, _, x, y] => x && y
  | _, _ => true
mutual
/-- it and all parts in it have a knot's form -/
def D.allK : D → Bool
  | .s _ => false
  | .i _ => false
  | .o => false
  | .t l => allKOf l (allKs l)
def allKs : List D → List Bool
  | [] => []
  | d :: r => d.allK :: allKs r
end
def nodesOf (l : List D) (r : List (List D)) : List D := D.t l :: match l, r with
  | [.s nm, _], [_, x] => if nm = "is" then [] else x
  | [.s nm, _, _], [_, x, y] => if nm = "then used" then y else y ++ x
  | [_, _, _, _], [_, _, x, y] => y ++ x
  | _, _ => []
mutual
def D.nodes : D → List D
  | .s z => [.s z]
  | .i n => [.i n]
  | .o => [.o]
  | .t l => nodesOf l (nodesLs l)
def nodesLs : List D → List (List D)
  | [] => []
  | d :: r => d.nodes :: nodesLs r
end
end S4

/-! Sets of texts: set(a list of texts), sorted of it. -/
namespace KT
open PySem PySem.Spec PyProof.Rows L2
theorem nodup_len : ∀ (l D : List Str), l.Nodup → (∀ x ∈ l, x ∈ D) → l.length ≤ D.length
  | [], _, _, _ => Nat.zero_le _
  | x :: l, D, h, s => by
    obtain ⟨h1, h2⟩ := List.nodup_cons.mp h
    have hx := s x List.mem_cons_self
    have q := nodup_len l (D.erase x) h2 fun y hy => (List.mem_erase_of_ne (fun e => h1 (by rw [← e]; exact hy))).mpr (s y (List.mem_cons_of_mem _ hy))
    rw [List.length_erase_of_mem hx] at q
    have : 0 < D.length := List.length_pos_of_mem hx
    rw [List.length_cons]
    omega
def keyS (e : Int × Value) : Str := match e.2 with
  | .str k _ => k
  | _ => Str.empty
/-- the texts of ks (some of them told twice) are in the set at a -/
def SetG (P : Program) (w : World) (h : Heap) (a : Addr) (ks : List Str) : Prop :=
  ∃ o es ep t, h.get? a = some o ∧ o.ExactSet ∧ o.data = .set es ep t ∧ (∀ e ∈ es.toList, ∃ k tk, e.2 = Value.str k tk ∧ e.1 = (PySem.strKind P w).hash k) ∧ (es.toList.map keyS).Nodup ∧ (∀ k, k ∈ es.toList.map keyS ↔ k ∈ ks) ∧
    es.size < scanBound ∧ t.fits es.size = true ∧ L2.Ris t.place.toList ∧ (w.params.followText "set-order" = true ∨ t.led = true)
section
variable {P : Program} {w : World} {h h' : Heap} {a : Addr} {ks : List Str}
theorem SetG.at_ (R : SetG P w h a ks) (k : ∀ o, h.get? a = some o → h'.get? a = some o) : SetG P w h' a ks := by
  obtain ⟨o, es, ep, t, ho, r⟩ := R
  exact ⟨o, es, ep, t, k o ho, r⟩
theorem els_of {l : List (Int × Value)} (g : ∀ e ∈ l, ∃ k tk, e.2 = Value.str k tk ∧ e.1 = (PySem.strKind P w).hash k) : ElemsOf (PySem.strKind P w) l := fun e he => by
  obtain ⟨k, tk, h1, h2⟩ := g e he
  exact ⟨⟨k, by rw [h1]; exact strKind_is P w k tk, h2⟩, by rw [h1] <;> rfl⟩
theorem is_key {e : Int × Value} (g : ∃ k tk, e.2 = Value.str k tk ∧ e.1 = (PySem.strKind P w).hash k) (k : Str) : (PySem.strKind P w).is k e.2 = true ↔ keyS e = k := by
  obtain ⟨k0, tk, h1, _⟩ := g
  have hk : (PySem.strKind P w).is k0 e.2 = true := by rw [h1]; exact strKind_is P w k0 tk
  have e0 : keyS e = k0 := by unfold keyS; rw [h1]
  rw [e0]
  constructor
  · intro z
    exact (PySem.strKind P w).inj _ _ _ hk z
  · intro z
    rw [← z]
    exact hk
end
section
variable {P : Program} {w : World} {A : Around} {E : Value → Shared → Prop} {s : Shared} {a : Addr} {ks : List Str}
/-- the end of an addition: the new table is stored, and laid anew where it is too full -/
theorem setG_tail {g : Bool → Sem Unit} (hg : ∀ (b : Bool) (s₁ : Shared) (Q' : Unit → Shared → Prop), Q' () s₁ → wpAny (model P w) A (g b) Q' E s₁)
    {o : Obj} {es : Array (Int × Value)} {ep : Nat} {t : SetTable} (ho : s.heap.get? a = some o) (hex : o.ExactSet) (hd : o.data = .set es ep t)
    {es1 : Array (Int × Value)} {t2 : SetTable} {ks' : List Str} (new : ∀ h' o' es2 ep2 t3, h'.get? a = some o' → o'.ExactSet → o'.data = .set es2 ep2 t3 → es2.toList.Perm es1.toList → t3.fits es2.size = true → L2.Ris t3.place.toList → (w.params.followText "set-order" = true ∨ t3.led = true) → SetG P w h' a ks')
    (hb1 : es1.size < scanBound) (hf2 : t2.fits es1.size = true) (hr : L2.Ris t2.place.toList) (hl : w.params.followText "set-order" = true ∨ t2.led = true) {wasDummy : Bool} {R : Option Bool → Shared → Prop}
    (hR : ∀ h', Heap.SameBut a s.heap h' → SetG P w h' a ks' → R (some true) { s with heap := h' }) :
    wpAny (model P w) A (do
        storeSet a es1 t2
        if (!wasDummy && t2.tooFull) = true then do
            g (relayAll t2 es1 (SetTable.grown es1.size)).2.2
            storeSet a (relayAll t2 es1 (SetTable.grown es1.size)).1 (relayAll t2 es1 (SetTable.grown es1.size)).2.1
            pure (some true)
          else pure (some true)) R E s := by
  refine wpAny_bind (wpAny_storeSet_of ho hd ?_ (fits_of_scanBound hb1))
  have ho1 := store_at (es' := es1) (t' := t2) ho hd
  have sb1 := Heap.SameBut.update s.heap a (Obj.putSet es1 t2)
  split
  · have pm := relayAll_perm t2 es1 (SetTable.grown es1.size)
    have hf3 := relayAll_fits t2 es1 (SetTable.grown es1.size)
    have hr3 := relayAll_ris t2 es1 (SetTable.grown es1.size)
    have hl3 := relayAll_led t2 es1 (SetTable.grown es1.size)
    generalize relayAll t2 es1 (SetTable.grown es1.size) = Z at pm hf3 hr3 hl3 ⊢
    obtain ⟨es2, t3, gave⟩ := Z
    dsimp only at pm hf3 hr3 hl3 ⊢
    have hsz : es2.size = es1.size := by rw [← Array.length_toList, pm.length_eq, Array.length_toList]
    refine wpAny_bind (hg _ _ _ ?_)
    refine wpAny_bind (wpAny_storeSet_of ho1 rfl ?_ (fits_of_scanBound (by rw [hsz]; exact hb1)))
    have ho2 := store_at (es' := es2) (t' := t3) ho1 rfl
    exact wpAny_pure (hR _ (sb1.trans (Heap.SameBut.update _ a _)) (new _ _ es2 _ t3 ho2 hex rfl pm hf3 hr3 (hl.imp id fun z => by rw [hl3]; exact z)))
  · exact wpAny_pure (hR _ sb1 (new _ _ es1 _ t2 ho1 hex rfl (.refl _) hf2 hr hl))
theorem setG_add {k : Str} {tk : Tok} {Q : Bool → Shared → Prop} (R : SetG P w s.heap a ks) (room : ks.length + 2 < scanBound)
    (hQ : ∀ h' b, Heap.SameBut a s.heap h' → SetG P w h' a (ks ++ [k]) → Q b { s with heap := h' }) :
    wpAny (model P w) A (setAddHashed a (.str k tk) ((PySem.strKind P w).hash k)) Q E s := by
  obtain ⟨o, es, ep, t, ho, hex, hd, g, nd, hm, hb, hf, hr, hl⟩ := R
  have hkey : (PySem.strKind P w).is k (.str k tk) = true := strKind_is P w k tk
  have hsc : (Value.str k tk).scannable = true := rfl
  have hel : ElemsOf (PySem.strKind P w) es.toList := els_of g
  have hkm : k ∈ es.toList.map keyS ↔ ∃ e ∈ es.toList, (PySem.strKind P w).is k e.2 = true := by
    rw [List.mem_map]
    exact ⟨fun ⟨e, he, q⟩ => ⟨e, he, (is_key (g e he) k).2 q⟩, fun ⟨e, he, q⟩ => ⟨e, he, (is_key (g e he) k).1 q⟩⟩
  unfold setAddHashed setAddHashedIn
  refine wpAny_holding (wpAny_bind (wpAny_setState_of ho hd hf ?_))
  dsimp only
  rw [byScan_of hsc hb hel]
  simp only [↓reduceIte]
  unfold setAddByScan
  refine wpAny_bind ?_
  refine wpAny_bind (wpAny_rule ?_)
  refine wpAny_bind (wpAny_setScan_of hkey ho hd hf hel ?_)
  cases hfi : List.findIdx? (fun e => (PySem.strKind P w).is k e.2) es.toList with
  | some j =>
    dsimp only
    obtain ⟨hj, pj, _⟩ := List.findIdx?_eq_some_iff_getElem.mp hfi
    have hk : k ∈ ks := (hm k).1 (hkm.2 ⟨es.toList[j], List.getElem_mem hj, pj⟩)
    refine wpAny_pure (wpAny_pure ?_)
    exact hQ s.heap _ (Heap.SameBut.refl a s.heap) ⟨o, es, ep, t, ho, hex, hd, g, nd, fun i => by
      rw [hm i, List.mem_append, List.mem_singleton]
      exact ⟨.inl, fun z => z.elim id fun e => e ▸ hk⟩, hb, hf, hr, hl⟩
  | none =>
    dsimp only
    have hnk : k ∉ es.toList.map keyS := fun z => by
      obtain ⟨e, he, q⟩ := hkm.1 z
      have c := List.findIdx?_eq_none_iff.mp hfi e he
      rw [q] at c
      cases c
    have hgw : ∀ (b : Bool) {s₁ : Shared} {Q' : Unit → Shared → Prop}, Q' () s₁ → wpAny (model P w) A (match b with | true => rule "set.scan.the-table-gave-way" | false => pure ()) Q' E s₁ :=
      fun b s₁ Q' q => by cases b <;> first | exact wpAny_pure q | exact wpAny_rule q
    have pm := layNew_perm t es ((PySem.strKind P w).hash k) (.str k tk)
    have hf1 := layNew_fits t es ((PySem.strKind P w).hash k) (.str k tk)
    have hr1 := layNew_ris t es ((PySem.strKind P w).hash k) (.str k tk) hr
    have hl1 := layNew_led t es ((PySem.strKind P w).hash k) (.str k tk)
    generalize layNew t es ((PySem.strKind P w).hash k) (.str k tk) = Z at pm hf1 hr1 hl1 ⊢
    obtain ⟨es1, t1, wasDummy, gave⟩ := Z
    dsimp only at pm hf1 hr1 hl1 ⊢
    rw [Array.toList_push] at pm
    have pc : es1.toList.Perm (((PySem.strKind P w).hash k, Value.str k tk) :: es.toList) := pm.trans (List.perm_append_singleton _ _)
    have hlen : (es.toList.map keyS).length ≤ ks.length := nodup_len _ _ nd fun x hx => (hm x).1 hx
    have hes : es1.size = es.size + 1 := by rw [← Array.length_toList, pc.length_eq, List.length_cons, Array.length_toList]
    have hle : es.size ≤ ks.length := by rw [List.length_map, Array.length_toList] at hlen; exact hlen
    have hb1 : es1.size < scanBound := by rw [hes]; omega
    have hled : w.params.followText "set-order" = true ∨ t1.led = true := hl.imp id fun z => by rw [hl1]; exact z
    have new : ∀ h' o' es2 ep2 t3, h'.get? a = some o' → o'.ExactSet → o'.data = .set es2 ep2 t3 → es2.toList.Perm es1.toList → t3.fits es2.size = true → L2.Ris t3.place.toList → (w.params.followText "set-order" = true ∨ t3.led = true) → SetG P w h' a (ks ++ [k]) := by
      intro h' o' es2 ep2 t3 e1 e2 e3 p f r l
      have pa := p.trans pc
      have pk : (es2.toList.map keyS).Perm (k :: es.toList.map keyS) := pa.map keyS
      refine ⟨o', es2, ep2, t3, e1, e2, e3, fun e he => ?_, pk.nodup_iff.mpr (List.nodup_cons.mpr ⟨hnk, nd⟩), fun i => ?_, ?_, f, r, l⟩
      · rcases List.mem_cons.mp (pa.mem_iff.mp he) with z | z
        · rw [z]; exact ⟨k, tk, rfl, rfl⟩
        · exact g e z
      · rw [pk.mem_iff, List.mem_cons, hm i, List.mem_append, List.mem_singleton]
        exact Or.comm
      · have : es2.size = es1.size := by rw [← Array.length_toList, p.length_eq, Array.length_toList]
        rw [this]
        exact hb1
    refine wpAny_bind (hgw _ ?_)
    split
    · refine wpAny_bind ?_
      rw [hashByValue_scannable 8 hsc]
      refine wpAny_pure ?_
      refine setG_tail (ks' := ks ++ [k]) ?_ ho hex hd new hb1 ?_ ?_ ?_ ?_
      · intro b s₁ Q' q; cases b <;> first | exact wpAny_pure q | exact wpAny_rule q
      · first | (split <;> first | exact hf1 | exact SetTable.fits_plain_off hf1) | exact hf1
      · first | (split <;> exact hr1) | exact hr1
      · first | (split <;> exact hled) | exact hled
      · intro h' sb r; dsimp only; exact wpAny_pure (hQ h' _ sb r)
    · refine wpAny_bind (wpAny_pure ?_)
      simp only [↓reduceIte]
      refine setG_tail (ks' := ks ++ [k]) ?_ ho hex hd new hb1 hf1 hr1 hled ?_
      · intro b s₁ Q' q; cases b <;> first | exact wpAny_pure q | exact wpAny_rule q
      · intro h' sb r; dsimp only; exact wpAny_pure (hQ h' _ sb r)
theorem setG_fresh {h : Heap} (ho : h.get? a = some { cls := .type "set", dict := none, data := .set #[] 0 (.fresh 0 0 (!w.params.followText "set-order")) }) : SetG P w h a [] :=
  ⟨_, #[], 0, _, ho, ⟨rfl, rfl, rfl⟩, rfl, (fun e he => by simp at he), (by simp), (fun k => by simp), (by decide), (by rfl), List.Pairwise.nil, by
    show _ ∨ (!w.params.followText "set-order") = true
    cases w.params.followText "set-order"
    · exact .inr rfl
    · exact .inl rfl⟩
/-- the loop that puts the texts in -/
theorem set_update_strs {I : Addr} {fp wr : List Addr} {G : Array GenState → Array GenState → Prop} {n : Nat} {Pv : Nat → Value → Prop} {St : Nat → Shared → Prop} {R : Result → Shared → Prop}
    (W : WalksS P w A.in1 I fp wr G n Pv St) (S : Addr) (hSf : S ∉ fp) (xs : List Str) (hn : n = xs.length) (hfew : xs.length + 2 < scanBound) (hval : ∀ i v, Pv i v → ∃ t, v = .str (xs.getD i Str.empty) t) :
    ∀ (k i : Nat) (s : Shared), n - i = k → i ≤ n → St i s → SetG P w s.heap S (xs.take i) →
      (∀ s', Moved (S :: wr) G s s' → SetG P w s'.heap S xs → R (.ok (.ret .none)) s') →
      codeAny (model P w) A (.builtin "set.update.loop" ⟨[.ref S, .ref I], []⟩) R s := by
  have hSw : S ∉ wr := fun h => hSf (W.sub _ h)
  have hsub : ∀ b ∈ wr, b ∈ S :: wr := fun b hb => List.mem_cons_of_mem _ hb
  intro k
  induction k with
  | zero =>
    intro i s hk hi hst hS hR
    have hin : i = n := by omega
    subst hin
    refine codeAny_builtin PyProof.Rows.F.entry_set_update_loop ?_
    rw [Around.under_plainId PyProof.Rows.F.plain_set_update_loop _]
    show wpAny _ A.in1 (pyNext (.ref I) >>= _) _ _ s
    refine wpAny_bind (W.done s _ _ hst fun s' hm => ?_)
    show wpAny _ A.in1 (ret Value.none) _ _ s'
    rw [hn, List.take_length] at hS
    exact wpAny_pure (hR s' (hm.mono hsub) (hS.at_ fun o e => hm.heap S o hSw e))
  | succ k ih =>
    intro i s hk hi hst hS hR
    have hlt : i < n := by omega
    refine codeAny_builtin PyProof.Rows.F.entry_set_update_loop ?_
    rw [Around.under_plainId PyProof.Rows.F.plain_set_update_loop _]
    show wpAny _ A.in1 (pyNext (.ref I) >>= _) _ _ s
    refine wpAny_bind (W.item i s _ _ hlt hst fun v s' hP hst' hm => ?_)
    obtain ⟨t, rfl⟩ := hval i v hP
    have hS' : SetG P w s'.heap S (xs.take i) := hS.at_ fun o e => hm.heap S o hSw e
    show wpAny _ A.in1 (holding [Value.str (xs.getD i Str.empty) t] (setAdd S (.str (xs.getD i Str.empty) t)) >>= _) _ _ s'
    refine wpAny_bind (wpAny_holding ?_)
    unfold setAdd
    refine wpAny_holding ?_
    refine wpAny_bind ((PySem.strKind P w).pyHash (k := xs.getD i Str.empty) (strKind_is _ _ _ _) ?_)
    refine setG_add (s := { s' with toks := s'.toks + 1 }) hS' (by rw [List.length_take]; omega) fun h' b hsb hS2 => ?_
    have et : xs.take i ++ [xs.getD i Str.empty] = xs.take (i + 1) := by
      rw [List.take_add_one]
      have q : xs[i]? = some (xs.getD i Str.empty) := by
        have l : i < xs.length := by omega
        simp [List.getD, l]
      rw [q]
      rfl
    rw [et] at hS2
    refine wpAny_pure ⟨plainId_quiet PyProof.Rows.F.plain_set_update_loop _, ih (i + 1) _ (by omega) hlt (W.frame _ s' _ _ hst' (Nat.le_succ _) fun b hb o e => ?_) hS2 fun s'' hm'' hS'' => ?_⟩
    · rw [hsb.2 b (fun h : b = S => hSf (by rw [← h]; exact hb))]; exact e
    · refine hR s'' (Moved.trans W.gtrans ((hm.mono hsub).then_heap (Nat.le_succ _) fun b o hb e => ?_) hm'') hS''
      rw [hsb.2 b (fun h : b = S => hb (by rw [h]; exact List.mem_cons_self))]; exact e
set_option maxHeartbeats 3200000 in
/-- set(a list of texts) -/
theorem call_set_strs {l : Addr} {items : Array Value} {xs : List Str} {Q : Value → Shared → Prop} (hh : A.handled = none) (hl : s.heap.IsList l items) (hi : PyProof.Rows.StrsAre items.toList xs) (hfew : xs.length + 2 < scanBound)
    (h : ∀ (h' : Heap) (tk : Nat), SetG P w h' s.heap.objs.size xs → (∀ b o, s.heap.get? b = some o → h'.get? b = some o) → Q (.ref s.heap.objs.size) { s with heap := h', toks := tk }) :
    wpAny (model P w) A (call (.type "set") [.ref l]) Q E s := by
  obtain ⟨c, tl, hmro⟩ := PySem.F.called_set.mro
  have hmade := PySem.F.called_set.made
  have hsub := PySem.F.called_set.sub
  refine wpAny_call (codeAny_of_tree ?_)
  show wpAny _ _ (callAny (.type "set") _) _ _ _
  refine wpAny_pure ⟨Code.quiet_builtin _ (by decide +kernel), codeAny_builtin PySem.F.entry_type_call ?_⟩
  rw [Around.under_plain (weight_type_call_type "set" [.ref l] []) rfl]
  have h1 := PySem.F.called_set.notType
  have h2 := PySem.F.called_set.canCreate
  have hct := PySem.F.typeCall_set_1 (.ref l)
  repeat (any_goals (first | assumption | wp_step))

  refine codeAny_mono (L2.code_set_led1 (.ref l) (E := E) (Q₁ := fun obj s₁ => obj = .ref s.heap.objs.size ∧ s₁ = { s with heap := s.heap.push { cls := .type "set", dict := none, data := .set #[] 0 (.fresh 0 0 (!w.params.followText "set-order")) } }) ⟨rfl, rfl⟩) fun r s₁ hr => ?_
  match r, hr with
  | .error e, hr => exact hr
  | .ok .next, hr => exact hr.elim
  | .ok .brk, hr => exact hr.elim
  | .ok .cont, hr => exact hr.elim
  | .ok (.ret obj), hr =>
      obtain ⟨rfl, rfl⟩ := hr
      have hS : (s.heap.push { cls := .type "set", dict := none, data := .set #[] 0 (.fresh 0 0 (!w.params.followText "set-order")) }).get? s.heap.objs.size = some { cls := .type "set", dict := none, data := .set #[] 0 (.fresh 0 0 (!w.params.followText "set-order")) } := Heap.get?_push_size _ rfl
      have hT : Shared.TypeIs { s with heap := s.heap.push { cls := .type "set", dict := none, data := .set #[] 0 (.fresh 0 0 (!w.params.followText "set-order")) } } (.ref s.heap.objs.size) "set" := ⟨_, hS, rfl⟩
      have hli := PySem.F.called_set.init.lookup
      have hbi := PySem.F.called_set.init.bind (.ref s.heap.objs.size)
      repeat (any_goals (first | assumption | wp_step))

      refine codeAny_mono (codeAny_call_builtin (R := wants (fun r s₂ => r = .none ∧ ∃ h' tk, s₂ = { s with heap := h', toks := tk } ∧ SetG P w h' s.heap.objs.size xs ∧ (∀ b o, s.heap.get? b = some o → h'.get? b = some o)) E)
        PySem.F.called_set.init.plain PySem.F.entry_set_init (check_set_init_1 hT ?_)) fun r₂ s₂ hr₂ => ?_
      · obtain ⟨ol, hol, hcl, nl, hdl⟩ := hl
        obtain ⟨ocls, odict, odata, oslots⟩ := ol
        simp only at hcl hdl
        subst hcl; subst hdl
        have hol' : (s.heap.push { cls := .type "set", dict := none, data := .set #[] 0 (.fresh 0 0 (!w.params.followText "set-order")) }).get? l = some { cls := .type "list", dict := odict, data := .seq items nl, slots := oslots } := Heap.get?_push_of_some _ hol
        have hsls := PySem.F.sub_list_set
        have hslf := PySem.F.sub_list_frozenset
        have hne : (Value.type "list" == Value.type "dict") = false := by decide
        have hl1 : (s.heap.push { cls := .type "set", dict := none, data := .set #[] 0 (.fresh 0 0 (!w.params.followText "set-order")) }).IsList l items := ⟨_, hol', rfl, nl, rfl⟩
        unfold Builtin.«set.__init__» noKeywords Builtin.Frozenset.updateFrom
        generalize hPI : pyIter = PI
        wp_walk
        subst hPI

        refine wpAny_pyIter_list hl1 ?_
        refine wpAny_bind (wpAny_runValue ?_)
        have hlS : l < s.heap.objs.size := Heap.lt_size hol
        have hh3 : A.in1.in1.in1.handled = none := by simp [hh]
        have hneI : l ≠ (s.heap.push { cls := .type "set", dict := none, data := .set #[] 0 (.fresh 0 0 (!w.params.followText "set-order")) }).objs.size := by
          rw [Heap.size_push]; exact Nat.ne_of_lt (Nat.lt_succ_of_lt hlS)
        have hSf : s.heap.objs.size ∉ [(s.heap.push { cls := .type "set", dict := none, data := .set #[] 0 (.fresh 0 0 (!w.params.followText "set-order")) }).objs.size, l] := by
          rw [Heap.size_push]; simp only [List.mem_cons, List.mem_singleton, List.not_mem_nil, or_false, not_or]
          exact ⟨Nat.ne_of_lt (Nat.lt_succ_self _), Nat.ne_of_gt hlS⟩
        have hsz : xs.length = items.size := by rw [← StrsAre.len_eq hi, Array.length_toList]
        have hval : ∀ (i : Nat) (v : Value), items[i]? = some v → ∃ t, v = .str (xs.getD i Str.empty) t := fun i v hv => SS.strs_at hi i v (by rw [Array.getElem?_toList]; exact hv)
        refine set_update_strs ((Walks.list hh3 _ l hneI items).toS) s.heap.objs.size
          hSf xs hsz.symm hfew hval (items.size - 0) 0 _ (by omega) (Nat.zero_le _)
          ⟨⟨_, Heap.get?_push_size _ rfl, rfl, rfl⟩, (hl1.push _)⟩ ?hS0 ?hR
        case hS0 =>
          exact setG_fresh (Heap.get?_push_of_some _ hS)
        case hR =>
          intro s' hm hS'
          obtain ⟨h', g', d', tk', os'⟩ := s'
          have eg : g' = s.gens := hm.gens
          have ed : d' = s.drawn := hm.drawn
          have eo : os' = s.os := hm.os
          subst eg; subst ed; subst eo
          show wpAny _ _ _ _ _ _
          refine wpAny_pure ?_
          show wpAny _ _ (ret Value.none) _ _ _
          refine wpAny_pure ⟨rfl, h', tk', rfl, hS', fun b o e => ?_⟩
          have hb := Heap.lt_size e
          have hb1 : b ≠ s.heap.objs.size := Nat.ne_of_lt hb
          have hb2 : b ≠ (s.heap.push { cls := .type "set", dict := none, data := .set #[] 0 (.fresh 0 0 (!w.params.followText "set-order")) }).objs.size := by
            rw [Heap.size_push]; exact Nat.ne_of_lt (Nat.lt_succ_of_lt hb)
          exact hm.heap b o (by simp only [List.mem_cons, List.mem_singleton, List.not_mem_nil, or_false, not_or]; exact ⟨hb1, hb2⟩) (Heap.get?_push_of_some _ (Heap.get?_push_of_some _ e))
      · match r₂, hr₂ with
        | .error e, hr₂ => exact hr₂
        | .ok .next, hr₂ => exact hr₂.elim
        | .ok .brk, hr₂ => exact hr₂.elim
        | .ok .cont, hr₂ => exact hr₂.elim
        | .ok (.ret r), hr₂ =>
          obtain ⟨rfl, h', tk, rfl, hS', hk'⟩ := hr₂
          repeat (any_goals (first | assumption | wp_step))
          exact h _ _ hS' hk'
end
end KT

namespace KT
open PySem PySem.Spec PyProof.Rows L2
section
variable {P : Program} {w : World} {A : Around} {E : Value → Shared → Prop} {s : Shared} {a : Addr} {ks : List Str}
theorem strs_of : ∀ (l : List Value), (∀ v ∈ l, ∃ k tk, v = Value.str k tk) → StrsAre l (l.map fun v => keyS (0, v))
  | [], _ => .nil
  | v :: l, h => by
    obtain ⟨k, tk, rfl⟩ := h v List.mem_cons_self
    exact .cons k tk (strs_of l fun u hu => h u (List.mem_cons_of_mem _ hu))
/-- sorted(a set of texts) -/
theorem sorted_setG {Q : Value → Shared → Prop} (R : SetG P w s.heap a ks) (hh : A.handled = none)
    (hQ : ∀ s' p (out : Array Value) (c : Nat) (ys : List Str), (∀ b o, s.heap.get? b = some o → s'.heap.get? b = some o) → s'.gens = s.gens → s'.os = s.os → s.heap.objs.size ≤ p →
      s'.heap.get? p = some (seqObj "list" out c) → StrsAre out.toList ys → sortedS ys = true → ys.Nodup → (∀ k, k ∈ ys ↔ k ∈ ks) → ys.length ≤ 4096 → Q (.ref p) s') :
    wpAny (model P w) A (call (.builtin "sorted") [.ref a]) Q E s := by
  obtain ⟨o, es, ep, t, ho, hex, hd, g, nd, hm, hb, hf, hr, hl⟩ := R
  refine Calls.call_function_entry kind_sorted plain_sorted entry_sorted (args_sorted1 _) ?_
  unfold Builtin.«sorted»
  refine wpAny_bind (m := checkCount "sorted" 1 1 _) (wpAny_pure ?_)
  refine wpAny_bind (collect_set (A := A.in1) hh ⟨o, ho, hex.1, hd⟩ hf hb hr hl fun s1 vs k1 hz g1 o1 pm => ?_)
  have hvl : vs.length = es.size := by rw [pm.length_eq, List.length_map, Array.length_toList]
  have hb' : es.size < 4096 := hb
  have hS : StrsAre vs (vs.map fun v => keyS (0, v)) := strs_of vs fun v hv => by
    obtain ⟨e, he, q⟩ := List.mem_map.mp (pm.mem_iff.mp hv)
    obtain ⟨k, tk, h1, _⟩ := g e he
    exact ⟨k, tk, by rw [← q]; exact h1⟩
  have pk : (vs.map fun v => keyS (0, v)).Perm (es.toList.map keyS) := by
    have q := pm.map fun v => keyS (0, v)
    rw [List.map_map] at q
    exact q
  refine wpAny_bind (wpAny_newList ?_ (by rw [hvl, sizeLine_eq]; omega))
  have hoL : (s1.heap.push (seqObj "list" vs.toArray 0)).get? s1.heap.objs.size = some (seqObj "list" vs.toArray 0) := Heap.get?_push_size _ rfl
  refine wpAny_bind (wpAny_holding (wpAny_call_entry slot_list_sort ⟨_, hoL, rfl⟩ entry_list_sort (list_sort_treeKAny strKind_oneLt hoL hS.keysOf (fun v₁ v₂ rest e => keyKind_strs (by rw [← e]; exact hS)) (by rw [hvl, sizeLine_eq]; omega) fun st' hp hs => ⟨_, rfl, ?_⟩) (args_list_sort _)))
  obtain ⟨ys, a1, a2, a3⟩ := sorted_out_str hS hp hs
  obtain ⟨c, hc⟩ := sortedHeap_at (vs := vs) (out := (arrOf st').map (·.2)) hoL
  have pn : ys.Perm (es.toList.map keyS) := a2.trans pk
  refine wpAny_pure ⟨_, rfl, hQ _ s1.heap.objs.size _ c ys (fun b u e => ?_) g1 o1 hz hc a1 a3 (pn.nodup_iff.mpr nd) (fun k => by rw [pn.mem_iff, hm k]) ?_⟩
  · have q := k1 b u e
    have hlt := Heap.lt_size q
    show (sortedHeap (s1.heap.push (seqObj "list" vs.toArray 0)) s1.heap.objs.size vs _).get? b = some u
    rw [sortedHeap_old (Nat.ne_of_lt hlt) (by rw [size_push']; exact Nat.lt_succ_of_lt hlt)]
    exact Heap.get?_push_of_some _ q
  · rw [pn.length_eq, List.length_map, Array.length_toList]
    omega
end
/-- the set of texts at a -/
def SetGO (P : Program) (w : World) (a : Addr) (ks : List Str) : HO := .ext fun h => SetG P w h a ks
section
variable {X : Cx}
theorem setGO_new {w : World} {P : Program} {H : Hp} {h : Heap} {a : Addr} {ks : List Str} (R : SetG P w h a ks) : ObjOk P w H h a (SetGO P w a ks) := by
  have ⟨o, _, _, _, ho, _⟩ := R
  exact ⟨R, ⟨o, ho⟩, fun h1 h2 p k => SetG.at_ p k⟩
/-- set(xs), texts -/
theorem cr_setG (hc : X.calm = true) : CallR X (.type "set") (fun vs H Q => ∃ (l : Addr) (xs : List Str), vs = [.ref l] ∧ SqL X.K H l (xs.map V.str) ∧ xs.length ≤ 4000 ∧ ∀ p, H p = none → Q (.ref p) (upd H p (SetGO X.prog X.w p xs))) := by
  intro pins s σ H vs us Q I r h
  obtain ⟨l, xs, rfl, hs, hz, q⟩ := h
  obtain ⟨its, rv, hl, _⟩ := I.list hs
  rw [Vals.ref1 r]
  refine call_set_strs (I.ok.hd hc) hl.isList rv.strs (by show xs.length + 2 < 4096; omega) fun h' tk R hk => ?_
  exact ⟨.ref s.heap.objs.size, upd H s.heap.objs.size (SetGO X.prog X.w s.heap.objs.size xs), I.laid (t' := tk) hk (Nat.le_refl _) (setGO_new R), rfl, q _ (I.hok.fresh (Nat.le_refl _))⟩
/-- sorted(a set of texts) -/
theorem cr_sortedG (hc : X.calm = true) : CallR X (.builtin "sorted") (fun vs H Q => ∃ (a : Addr) (ks : List Str), vs = [.ref a] ∧ H a = some (SetGO X.prog X.w a ks) ∧
    ∀ (ys : List Str) (p : Addr), sortedS ys = true → ys.Nodup → (∀ k, k ∈ ys ↔ k ∈ ks) → H p = none → Q (.ref p) (upd H p (.lst (ys.map V.str)))) := by
  intro pins s σ H vs us Q I r h
  obtain ⟨a, ks, rfl, ha, q⟩ := h
  have R : SetG X.prog X.w s.heap a ks := (I.hok a _ ha).1
  rw [Vals.ref1 r]
  refine sorted_setG R (I.ok.hd hc) fun s' p out c ys k g o hp hg hi hs hn hm hl => ?_
  have hlen : (ys.map V.str).length ≤ sizeLine := by rw [List.length_map, sizeLine_eq]; omega
  have hn' : H p = none := I.hok.fresh hp
  have J : Inv X pins σ (upd H p (.lst (ys.map V.str))) { s with heap := s'.heap, gens := s'.gens, drawn := s'.drawn, toks := s'.toks } :=
    I.call (ch := []) (Un.laid k hp hn') (I.hok.laid k hp ⟨hlen, out.toList, c, vals_of_strs hi, hg⟩) (by rw [g]; exact I.bare) (fun _ z => nomatch z)
  have e : s' = { s with heap := s'.heap, gens := s'.gens, drawn := s'.drawn, toks := s'.toks } := by
    cases s'
    cases s
    cases o
    rfl
  rw [e]
  exact ⟨.ref p, _, J, rfl, q ys p hs hn hm hn'⟩
end
end KT

/-! sum(a list of lists, []) -/
namespace KT
open PySem PySem.Spec PyProof.Rows L2
theorem sub_lst_str : isSubtype (.type "list") (.type "str") = pure false := by rw [isSubtype_type]; kernel_rfl
theorem sub_lst_bytes : isSubtype (.type "list") (.type "bytes") = pure false := by rw [isSubtype_type]; kernel_rfl
theorem sub_lst_bytearray : isSubtype (.type "list") (.type "bytearray") = pure false := by rw [isSubtype_type]; kernel_rfl
theorem args_sum2 (a b : Value) : argsOk "sum" ⟨[a, b], []⟩ := by unfold argsOk; kernel_rfl
def Inner (h : Heap) (its : Array Value) (xss : List (List Value)) : Prop := ∀ (i : Nat) (v : Value), its[i]? = some v → ∃ (a : Addr) (n : Nat) (xs : List Value), v = .ref a ∧ xss[i]? = some xs ∧ IsL h a xs.toArray n
section
variable {prog : Program} {w : World} {A : Around} {R : Result → Shared → Prop} {I l : Addr} {its : Array Value} {xss : List (List Value)}
theorem loop_sumL (hh : A.handled = none) (hne : l ≠ I) (hl : xss.length = its.size) (hz : xss.flatten.length ≤ sizeLine) (S T0 b0 : Addr) (hSI : S ≠ I) (hSl : S ≠ l) (hb : b0 ≤ S) (hI : b0 ≤ I) :
    ∀ (k i : Nat) (s : Shared) (T : Addr) (c cT : Nat), its.size - i = k → i ≤ its.size → (s.heap.IsListIter I l i ∧ s.heap.IsList l its) → s.heap.get? S = some { cls := .type "list", dict := none, data := .seq #[.ref T] c, slots := #[] } →
    IsL s.heap T (xss.take i).flatten.toArray cT → T ≠ S → T ≠ I → (i = 0 ∧ T = T0 ∨ b0 ≤ T) →
    (∀ (j : Nat) (v : Value), its[j]? = some v → ∃ (a : Addr) (n : Nat) (xs : List Value), v = .ref a ∧ a ≠ S ∧ a ≠ I ∧ xss[j]? = some xs ∧ IsL s.heap a xs.toArray n) →
    (∀ h' tk T' c', (∀ b o, b ≠ I → b ≠ S → s.heap.get? b = some o → h'.get? b = some o) → (its.size = 0 ∧ T' = T0 ∨ b0 ≤ T') → IsL h' T' xss.flatten.toArray c' → R (.ok (.ret (.ref T'))) { s with heap := h', toks := tk }) →
    codeAny (model prog w) A (.builtin "sum.loop" ⟨[.ref I, .ref S, rawInt 2, rawInt 0], []⟩) R s := by
  have W := Walks.list (prog := prog) (w := w) (A := A.in1) hh I l hne its
  intro k
  induction k with
  | zero =>
    intro i s T c cT hk hi hst hS hT hTS hTI hT0 hin hR
    have hin : i = its.size := by omega
    subst hin
    refine codeAny_builtin F.entry_sum_loop ?_
    rw [Around.under_plainId F.plain_sum_loop _]
    show wpAny _ A.in1 (seqItems? (.ref S) >>= _) _ _ s
    refine wpAny_bind (wpAny_seqItems hS rfl ?_)
    show wpAny _ A.in1 (tryCatch (pyNext (.ref I)) _ >>= _) _ _ s
    refine wpAny_bind (wpAny_tryCatch (W.done s _ _ hst fun h' tk hk' => ?_))
    have hk2 : ∀ b o, b ≠ I → s.heap.get? b = some o → h'.get? b = some o := fun b o hb e => hk' b o (by simpa using hb) e
    refine wpAny_pure (hR h' tk T cT (fun b o hbI _ e => hk2 b o hbI e) hT0 ?_)
    rw [← hl, List.take_length] at hT
    exact hk2 T _ hTI hT
  | succ k ih =>
    intro i s T c cT hk hi hst hS hT hTS hTI hT0 hin hR
    have hlt : i < its.size := by omega
    refine codeAny_builtin F.entry_sum_loop ?_
    rw [Around.under_plainId F.plain_sum_loop _]
    show wpAny _ A.in1 (seqItems? (.ref S) >>= _) _ _ s
    refine wpAny_bind (wpAny_seqItems hS rfl ?_)
    show wpAny _ A.in1 (tryCatch (pyNext (.ref I)) _ >>= _) _ _ s
    refine wpAny_bind (wpAny_tryCatch (W.item i s _ _ hlt hst fun v h' tk hP hst' hk' => ?_))
    have hk2 : ∀ b o, b ≠ I → s.heap.get? b = some o → h'.get? b = some o := fun b o hb e => hk' b o (by simpa using hb) e
    obtain ⟨a, n, xs, rfl, haS, haI, hxs, hax⟩ := hin i v hP
    have hS' := hk2 S _ hSI hS
    have hT' : IsL h' T (xss.take i).flatten.toArray cT := hk2 T _ hTI hT
    have hax' : IsL h' a xs.toArray n := hk2 a _ haI hax
    have fl : (xss.take (i + 1)).flatten = (xss.take i).flatten ++ xs := by rw [List.take_add_one, hxs, List.flatten_append]; simp
    have hsz : (xss.take i).flatten.toArray.size + xs.toArray.size ≤ sizeLine := by
      have q : (xss.take (i + 1)).flatten.length ≤ xss.flatten.length := by
        conv => rhs; rw [← List.take_append_drop (i + 1) xss, List.flatten_append, List.length_append]
        omega
      rw [fl, List.length_append] at q
      rw [List.size_toArray, List.size_toArray]
      omega
    show wpAny _ A.in1 ((holding [Value.ref a] (binaryOp .Add (.ref T) (.ref a))).attempt >>= _) _ _ _
    refine wpAny_bind (wpAny_attempt (wpAny_holding (PySem.P.add_list hT' hax' ?_ hsz)))
    generalize hp : Heap.push h' { cls := .type "list", data := .seq ((xss.take i).flatten.toArray ++ xs.toArray) } = h2
    have hpo : ∀ b o, h'.get? b = some o → h2.get? b = some o := fun b o e => by rw [← hp]; exact Heap.get?_push_of_some _ e
    have hN : IsL h2 h'.objs.size ((xss.take (i + 1)).flatten).toArray 0 := by
      rw [fl, ← hp]
      have e : ((xss.take i).flatten ++ xs).toArray = (xss.take i).flatten.toArray ++ xs.toArray := by simp
      rw [e]
      exact Heap.get?_push_size _ rfl
    have hS2 := hpo S _ hS'
    have ltS : S < h'.objs.size := Heap.lt_size hS'
    have ltI : I < h'.objs.size := by obtain ⟨o, e, _⟩ := hst'.1; exact Heap.lt_size e
    have ltl : l < h'.objs.size := by obtain ⟨o, e, _⟩ := hst'.2; exact Heap.lt_size e
    show wpAny _ A.in1 (updateSeq S (fun _ => #[.ref h'.objs.size]) >>= _) _ _ _
    refine wpAny_bind (wpAny_updateSeq (s := { s with heap := h2, toks := tk }) hS2 rfl ?_)
    have hS3 := Heap.get?_update_self (Obj.mapSeq fun _ => #[Value.ref h'.objs.size]) hS2 rfl
    refine wpAny_bind (wpAny_letGo ?_)
    refine wpAny_bind (wpAny_updateSeq (s := { s with heap := h2.update S (Obj.mapSeq fun _ => #[Value.ref h'.objs.size]), toks := tk }) hS3 rfl ?_)
    have old : ∀ b o, b ≠ S → h'.get? b = some o → ((h2.update S (Obj.mapSeq fun _ => #[Value.ref h'.objs.size])).update S (Obj.mapSeq fun _ => #[Value.ref h'.objs.size])).get? b = some o := fun b o hb e =>
      (Heap.get?_update_other _ _ (Ne.symm hb)).trans ((Heap.get?_update_other _ _ (Ne.symm hb)).trans (hpo b o e))
    refine wpAny_pure ⟨plainId_quiet F.plain_sum_loop _, ih (i + 1) _ h'.objs.size _ 0 (by omega) hlt ⟨hst'.1.at fun o e => old I o hSI.symm e, hst'.2.at fun o e => old l o hSl.symm e⟩ (Heap.get?_update_self _ hS3 rfl) ?_ (Nat.ne_of_gt ltS) (Nat.ne_of_gt ltI) (.inr (Nat.le_trans hb (Nat.le_of_lt ltS))) (fun j v hj => ?_) fun h'' tk'' T' c' hk'' hb' hT'' => ?_⟩
    · exact (Heap.get?_update_other _ _ (Nat.ne_of_lt ltS)).trans ((Heap.get?_update_other _ _ (Nat.ne_of_lt ltS)).trans hN)
    · obtain ⟨a', n', xs', e1, e2, e3, e4, e5⟩ := hin j v hj
      exact ⟨a', n', xs', e1, e2, e3, e4, old a' _ e2 (hk2 a' _ e3 e5)⟩
    · exact hR h'' tk'' T' c' (fun b o hbI hbS e => hk'' b o hbI hbS (old b o hbS (hk2 b o hbI e))) hb' hT''
end
section
variable {prog : Program} {w : World} {A : Around} {E : Value → Shared → Prop} {s : Shared} {l T0 : Addr} {its : Array Value} {xss : List (List Value)}
theorem call_sumL {Q : Value → Shared → Prop} {c0 : Nat} (hh : A.handled = none) (hl : s.heap.IsList l its) (hi : Inner s.heap its xss) (hlen : xss.length = its.size) (hz : xss.flatten.length ≤ sizeLine) (h0 : IsL s.heap T0 #[] c0)
    (h : ∀ h' tk T' c', (∀ b o, s.heap.get? b = some o → h'.get? b = some o) → (its.size = 0 ∧ T' = T0 ∨ s.heap.objs.size ≤ T') → IsL h' T' xss.flatten.toArray c' → Q (.ref T') { s with heap := h', toks := tk }) :
    wpAny (model prog w) A (call (.builtin "sum") [.ref l, .ref T0]) Q E s := by
  refine call_function_tree F.kind_sum F.plain_sum F.entry_sum (args_sum2 _ _) ?_
  unfold Builtin.«sum»
  simp only [List.length_cons, List.length_nil]
  rw [if_neg (by decide)]
  refine wpAny_bind (wpAny_of_eq (show Builtin.Builtins.bindParams "sum" ["start"] 0 ⟨[.ref T0], []⟩ = pure [some (.ref T0)] from rfl) ?_)
  have hlt : l < s.heap.objs.size := by obtain ⟨_, e, _⟩ := hl; exact Heap.lt_size e
  refine wpAny_bind (wpAny_pyIter_list hl ?_)
  refine wpAny_bind (wpAny_pure ?_)
  generalize hp : s.heap.push { cls := .type "list_iterator", data := .fields #[.ref l, .int 0 0] } = h2
  have hpo : ∀ b o, s.heap.get? b = some o → h2.get? b = some o := fun b o e => by rw [← hp]; exact Heap.get?_push_of_some _ e
  have hIt : h2.IsListIter s.heap.objs.size l 0 := by rw [← hp]; exact ⟨_, Heap.get?_push_size _ rfl, rfl, rfl⟩
  have hT : Shared.TypeIs { s with heap := h2 } (.ref T0) "list" := ⟨_, hpo _ _ h0, rfl⟩
  have s2 : h2.objs.size = s.heap.objs.size + 1 := by rw [← hp]; exact Heap.size_push ..
  simp only [List.forIn_cons, List.forIn_nil]
  refine wpAny_bind (wpAny_bind (wpAny_bind (wpAny_isInstance (T := "list") (b := false) hT sub_lst_str ?_)))
  simp only [Bool.false_eq_true, if_false]
  refine wpAny_pure (wpAny_bind (wpAny_bind (wpAny_isInstance (T := "list") (b := false) hT sub_lst_bytes ?_)))
  simp only [Bool.false_eq_true, if_false]
  refine wpAny_pure (wpAny_bind (wpAny_bind (wpAny_isInstance (T := "list") (b := false) hT sub_lst_bytearray ?_)))
  simp only [Bool.false_eq_true, if_false]
  refine wpAny_pure (wpAny_pure ?_)
  refine wpAny_bind (wpAny_newObj_type ?_)
  have lt0 : T0 < s.heap.objs.size := Heap.lt_size h0
  have n1 : s.heap.objs.size < h2.objs.size := by rw [s2]; exact Nat.lt_succ_self _
  have po : ∀ b o, s.heap.get? b = some o → (h2.push { cls := .type "list", dict := none, data := .seq #[.ref T0] 0, slots := #[] }).get? b = some o := fun b o e => Heap.get?_push_of_some _ (hpo b o e)
  refine wpAny_pure ⟨plainId_quiet F.plain_sum_loop _, loop_sumL (xss := xss) hh (Nat.ne_of_lt hlt) hlen hz h2.objs.size T0 s.heap.objs.size (Nat.ne_of_gt n1) (Nat.ne_of_gt (Nat.lt_trans hlt n1)) (Nat.le_of_lt n1) (Nat.le_refl _) its.size 0 _ T0 0 c0 (by omega) (Nat.zero_le _)
    ⟨hIt.at fun o e => Heap.get?_push_of_some _ e, hl.at fun o e => po _ _ e⟩ (Heap.get?_push_size _ rfl) (by simpa using po _ _ h0) (Nat.ne_of_lt (Nat.lt_trans lt0 n1)) (Nat.ne_of_lt lt0) (.inl ⟨rfl, rfl⟩) (fun j v hj => ?_) fun h' tk T' c' hk hb hT' => ?_⟩
  · obtain ⟨a, n, xs, e1, e2, e3⟩ := hi j v hj
    have := Heap.lt_size e3
    exact ⟨a, n, xs, e1, Nat.ne_of_lt (Nat.lt_trans this n1), Nat.ne_of_lt this, e2, po _ _ e3⟩
  · refine h h' tk T' c' (fun b o e => ?_) hb hT'
    have := Heap.lt_size e
    exact hk b o (Nat.ne_of_lt this) (Nat.ne_of_lt (Nat.lt_trans this n1)) (po b o e)
end
end KT

namespace KT
open PySem PySem.Spec PyProof.Rows L2
section
variable {X : Cx}
theorem inner_of {pins : List (Addr × Obj)} {σ : L2.St} {H : Hp} {s : Shared} (I : Inv X pins σ H s) : ∀ {as : List Addr} {yss : List (List V)}, Paired (fun (a : Addr) (ys : List V) => H a = some (.lst ys)) as yss →
    ∃ xss : List (List Value), xss.length = as.length ∧ Vals yss.flatten xss.flatten ∧ ∀ (j : Nat) (a : Addr), as[j]? = some a → ∃ (n : Nat) (xs : List Value), xss[j]? = some xs ∧ IsL s.heap a xs.toArray n
  | [], [], .nil => ⟨[], rfl, .nil, fun j a e => by simp at e⟩
  | a :: as, ys :: yss, .cons h t => by
    obtain ⟨xss, h1, h2, h3⟩ := inner_of I t
    obtain ⟨_, its, n, rv, g⟩ := I.hok a _ h
    refine ⟨its :: xss, by simp [h1], by rw [List.flatten_cons, List.flatten_cons]; exact rv.append h2, fun j b e => ?_⟩
    match j, e with
    | 0, e =>
      obtain rfl := Option.some.inj e
      exact ⟨n, its, rfl, g⟩
    | j + 1, e => exact h3 j b (by simpa using e)
/-- sum(xs, []), xs a list of lists, not empty -/
theorem cr_sumL (hc : X.calm = true) : CallR X (.builtin "sum") (fun vs H Q => ∃ (l e : Addr) (as : List Addr) (yss : List (List V)), vs = [.ref l, .ref e] ∧ H l = some (.lst (as.map V.ref)) ∧ H e = some (.lst []) ∧ as ≠ [] ∧
    Paired (fun (a : Addr) (ys : List V) => H a = some (.lst ys)) as yss ∧ yss.flatten.length ≤ sizeLine ∧ ∀ p, H p = none → Q (.ref p) (upd H p (.lst yss.flatten))) := by
  intro pins s σ H vs us Q I r h
  obtain ⟨l, e, as, yss, rfl, hl, he, hne, hp, hz, q⟩ := h
  obtain ⟨u, v, rfl, ru, rv⟩ := vals2 r
  obtain rfl : u = Value.ref l := ru
  obtain rfl : v = Value.ref e := rv
  obtain ⟨zl, its, n, vl, gl⟩ := I.hok l _ hl
  have ei := refs_at vl
  subst ei
  obtain ⟨_, its0, n0, v0, g0⟩ := I.hok e _ he
  cases v0
  obtain ⟨xss, h1, h2, h3⟩ := inner_of I hp
  have ll : (as.map Value.ref).toArray.size = as.length := by simp
  refine call_sumL (I.ok.hd hc) (xss := xss) (PySem.IsL.isList gl) (fun i v hv => ?_) (by rw [ll, h1]) (by rw [← h2.length]; exact hz) g0 fun h' tk T' c' hk hb hT => ?_
  · rw [List.getElem?_toArray, List.getElem?_map] at hv
    obtain ⟨a, ha, rfl⟩ := Option.map_eq_some_iff.mp hv
    obtain ⟨n', xs, e1, e2⟩ := h3 i a ha
    exact ⟨a, n', xs, rfl, e1, e2⟩
  · have le : s.heap.objs.size ≤ T' := by
      rcases hb with ⟨z, _⟩ | z
      · rw [ll] at z
        exact absurd (List.eq_nil_of_length_eq_zero z) hne
      · exact z
    exact ⟨.ref T', upd H T' (.lst yss.flatten), I.laid (t' := tk) hk le (show ObjOk X.prog X.w _ _ _ (.lst yss.flatten) from ⟨hz, xss.flatten, c', h2, hT⟩), rfl, q T' (I.hok.fresh le)⟩
end
/-! ### calls by keyword alone -/
def tCallK0 (sp : Sp) (gV : List V → List V → List V) (E : XK) (tk : TA) : TE := fun σ H Q => tk σ H fun zs H2 => sp (gV [] zs) H2 Q E
section
variable {X : Cx} {CX : CXT} {k : Nat} {f : Addr} {fd : FuncData} {ps ks : List Str} {sp : Sp} {E : XK} {x : Str} {p pos : Pos} {kws : List Keyword} {tk : TA} {g : List Value → List Value → List Value} {gV : List V → List V → List V}
theorem pe_callK0 (F : FnOk X.prog X.w X.K X.mg X.base CX k f fd ps sp) (hr : Room k X.A) (hg : Gl X x) (hm : X.mg x = some (.ref f)) (hk : PySem.W.keepIn X.K (.ref f) = true) (hb : KBinds X.K fd ps ks g gV) (hx : Passes CX X E)
    (hkw : PK X kws tk) (hall : (backToKw pos (keywordEach kws X.env)).all (·.1.isSome) = true := by rfl) (hks : (backToKw pos (keywordEach kws X.env)).filterMap (·.1) = ks := by rfl)
    (hdb : (x == ("__debug__" : Str)) = false := by decide) (hpl : ((backTo pos (starEach [] X.env)).any (·.1) || (backToKw pos (keywordEach kws X.env)).any (·.1.isNone)) = false := by rfl) :
    PE X (.Call (.Name x p) [] kws pos) (tCallK0 sp gV E tk) := by
  refine ⟨fun pins s σ H Q I h => ?_⟩
  refine wpAny_Call_Name_kw (ld_glob I hg hm ?_ hdb)
  refine PySem.W.callWith_KW0 (h₀ := X.base) I.ok.mod.kin hk hall (thn (hkw.run pos pins s σ H _ I h) fun ws s2 ⟨zs, H2, I2, rz, q2⟩ => ⟨I2.kIn, ?_⟩) hpl
  rw [hks]
  exact run_fnk (us := []) F hr hb hx I2 .nil rz q2
/-- nothing by place, the keywords' values in the order of the parameters by f -/
def gK {α : Type} (f : List α → List α) (us ws : List α) : List α := match us with
  | [] => f ws
  | _ => []
theorem kbinds_mk {K : PySem.W.Frag} {q : Str} {st : Stmt} (F : Fun K x q st f fd) (h1 : ps ≠ []) (fo : ∀ {α : Type}, List α → List α)
    (h : ∀ (kV doc pm : Value) (an : Option Addr) (cdv ct : Value) (ws : List Value), (fo ws).length = ps.length → bindArgs (PySem.W.fnOf x q (defArgs st) (defBody st) (defScope st) .none kV doc pm an cdv ct) ⟨[], ks.zip ws⟩ = pure (ps.zip (fo ws)))
    (hr : ∀ {zs : List V} {ws : List Value}, Vals zs ws → Vals (fo zs) (fo ws)) : KBinds K fd ps ks (gK fo) (gK fo) := by
  obtain ⟨oc, od, kV, doc, pm, an, cdv, ct, osl, rfl, lk, hcd⟩ := F.ex
  refine ⟨fun s us ws _ hl => ?_, fun {vs us zs ws} r rz => ?_⟩
  · cases us with
    | nil => exact .of_eq (h kV doc pm an cdv ct ws hl)
    | cons u us =>
      exact absurd (List.eq_nil_of_length_eq_zero (by rw [← hl]; rfl)) h1
  · cases r with
    | nil => exact hr rz
    | cons _ _ => exact .nil
end
end KT

namespace KT
open PySem PySem.Spec PyProof.Rows L2
section
variable {X : Cx}
/-- x in a tuple, data at any depth -/
def rInDT (K : PySem.W.Frag) (neg : Bool) : R2 := fun x y H Q => ∃ d ds, Dp K H x d ∧ Dp K H y (.tuple ds) ∧ SeqAt.shaped d = true ∧ SeqAt.shaped (.tuple ds) = true ∧ Q (.bl (if neg = true then !ds.any fun z => PyData.eqv z d else ds.any fun z => PyData.eqv z d)) H
theorem op_inDT (hu : X.A.units + 65 < cLine) : OpR X (compareOp .In) (rInDT X.K false) := by
  intro pins s σ H x y v u Q I rx ry h
  obtain ⟨d, ds, hd, he, sd, se, q⟩ := h
  obtain ⟨as, r1⟩ := Dp.reads I d x v hd rx
  obtain ⟨bs, r2⟩ := Dp.reads I (.tuple ds) y u he ry
  exact SeqAt.in_tuple_reads r2 r1 (SeqAt.canLay_of_shaped se) (SeqAt.canLay_of_shaped sd) (room_in_shaped sd hu) ⟨.bl _, H, I, rfl, q⟩
end
end KT

namespace S4
open PySem PySem.Spec PyProof.Rows L2 KT
open PySem.W (Frag)
def D.cls : D → String
  | .s _ => "str"
  | .i _ => "int"
  | .o => "NoneType"
  | .t _ => "tuple"
def D.isStr : D → Bool
  | .s _ => true
  | _ => false
def D.isTup : D → Bool
  | .t _ => true
  | _ => false
def D.isInt : D → Bool
  | .i _ => true
  | _ => false
section
variable {K : Frag} {H : Hp} {v : V} {d : D}
theorem DAt.tyx (h : DAt H v d) : TyX K H v (.type d.cls) := by
  cases h with
  | s h => exact .base (.str _)
  | i n => exact .base (.int n)
  | o => exact .base .non
  | t e _ => exact .base (.tup e)
theorem D.kstr (d : D) : PySem.W.kitOne K (.type d.cls) (.type "str") = some d.isStr := by cases d <;> exact kit_ty (by dsimp only [D.cls, D.isStr]; decide +kernel)
theorem D.ktup (d : D) : PySem.W.kitOne K (.type d.cls) (.type "tuple") = some d.isTup := by cases d <;> exact kit_ty (by dsimp only [D.cls, D.isTup]; decide +kernel)
theorem D.kint (d : D) : PySem.W.kitOne K (.type d.cls) (.type "int") = some d.isInt := by cases d <;> exact kit_ty (by dsimp only [D.cls, D.isInt]; decide +kernel)
theorem D.kbool (d : D) : PySem.W.kitOne K (.type d.cls) (.type "bool") = some false := by cases d <;> exact kit_ty (by dsimp only [D.cls]; decide +kernel)
end
section
variable {P : Program} {w : World} {K : Frag} {mg : Str → Option Value} {base : Heap}
def D.isWord : D → Bool
  | .s z => isWB z
  | _ => false
def spIsWordD : Sp := fun vs H Q _ => ∃ v d, vs = [v] ∧ DAt H v d ∧ ∀ H', Same H H' → Q (.bl d.isWord) H'
theorem abc_iff (c : Nat) : decide (c ∈ abc.cps.toList) = (decide (97 ≤ c) && decide (c ≤ 122)) := by
  rw [Bool.eq_iff_iff, decide_eq_true_eq, Bool.and_eq_true, decide_eq_true_eq, decide_eq_true_eq]
  constructor
  · intro h
    have q : ∀ d ∈ abc.cps.toList, 97 ≤ d ∧ d ≤ 122 := by decide +kernel
    exact q c h
  · intro h
    exact abc_mem h.1 h.2
theorem ok_isWordD {f : Addr} {fd : FuncData} (T : Top K mg "is_word" sIsWord pIsWord f fd) (B : Blt mg) (G : Gbl K mg) : FnOk P w K mg base CX0 1 f fd pIsWord spIsWordD := by
  obtain ⟨tl, gl⟩ := G.letters
  refine T.F.ok scIsWord (fun vs H Q E h => ?_) (fun cdv A outer s H vs Q E hr h => ?_)
  · obtain ⟨_, _, rfl, _⟩ := h
    rfl
  · obtain ⟨v, d, rfl, hd, k⟩ := h
    refine ⟨_, (pss_cons (ps_if (PW.pt (pw_or (pt_not (pt_val (pe_callB call_isi (by rfl) B.isi (by decide +kernel) (pa_cons (pv 0) (pa_cons (pe_bltn (v := .ty "str") (by rfl) B.str_ (by decide +kernel) rfl) pa_nil))))) (pw_or1 (pt_not (pt_chain op_le op_le pe_int (pe_callB call_len_str (by rfl) B.len PySem.boot_len (pa_cons (pv 0) pa_nil)) pe_int))))) (pss_one (ps_ret pe_bl)) pss_nil)
      (pss_one (ps_ret (pe_callB (cr_all rfl) (by rfl) B.all (by decide +kernel) (pa_cons (pe_lc (own := [("letter", 1)]) (g := gName 1) (tt := tYes) rfl scIsWord.nd (pi_str (pv 0)) (blkOk_by (N := nIsWord) (sc := defScope sIsWord) (by decide +kernel)) (fun _ _ _ _ _ => pg_name (i := 1) scIsWord.nd rfl (Or.inl rfl)) (fun _ _ _ _ _ => pts_nil) (fun _ _ _ _ _ => (pe_cmpR op_in_sign (pv 1) (pe_glob (v := .str abc) rfl gl ⟨tl, rfl⟩) (by rfl)))) pa_nil))))), ?_⟩
    refine ⟨_, rfl, _, _, _, _, d.isStr, rfl, .ty "str", hd.tyx, d.kstr, _, rfl, ?_⟩
    cases hd with
    | i n => exact iteT (k _ (Same.refl _))
    | o => exact iteT (k _ (Same.refl _))
    | t e h => exact iteT (k _ (Same.refl _))
    | @s z h =>
      have hl := h.2
      refine iteF ⟨_, rfl, _, rfl, by rw [sizeLine_eq]; omega, _, _, rfl, rfl, _, rfl, ?_⟩
      have e0 : (D.s z).isWord = (decide (1 ≤ z.length) && decide (z.length ≤ 8) && z.cps.toList.all fun c => decide (97 ≤ c) && decide (c ≤ 122)) := rfl
      rw [e0] at k
      by_cases c1 : 1 ≤ z.length
      · rw [decide_eq_true (show (1 : Int) ≤ (z.length : Int) by omega)]
        refine iteT ⟨_, _, rfl, rfl, _, rfl, ?_⟩
        by_cases c2 : z.length ≤ 8
        · rw [decide_eq_true (show (z.length : Int) ≤ 8 by omega)]
          refine iteF ⟨_, rfl, _, rfl, fun D hD => ?_⟩
          rw [decide_eq_true c1, decide_eq_true c2, Bool.true_and, Bool.true_and] at k
          refine lc_it walk_str (fun i H' => H' = upd H D (.lst ((z.cps.toList.take i).map fun c => V.bl (decide (c ∈ abc.cps.toList))))) (by rw [List.take_zero]; rfl) (fun _ _ _ _ => trivial) ?_ ?_
          · rintro i x H' H2 hi rfl ⟨rfl, c, hc, rfl⟩
            have hc' : z.cps.toList[i]? = some c := by rw [Array.getElem?_toList]; exact hc
            refine ⟨rfl, _, rfl, c, abc, rfl, rfl, _, upd_same, ?_, ?_⟩
            · rw [List.length_map, List.length_take, sizeLine_eq]
              have : z.cps.size ≤ 100 := hl
              omega
            · rw [upd_upd, List.take_add_one, hc', List.map_append]
              rfl
          · rintro H' rfl
            have lz : z.cps.size = z.cps.toList.length := by simp
            refine ⟨_, z.cps.toList.map fun c => decide (c ∈ abc.cps.toList), rfl, SqL.of (by rw [upd_same, lz, List.take_length, List.map_map]; rfl), ?_⟩
            have e : (z.cps.toList.map fun c => decide (c ∈ abc.cps.toList)).all id = z.cps.toList.all fun c => decide (97 ≤ c) && decide (c ≤ 122) := by
              rw [List.all_map]
              congr 1
              funext c
              exact abc_iff c
            rw [e]
            exact k _ (same_upd hD)
        · rw [decide_eq_false (show ¬ (z.length : Int) ≤ 8 by omega)]
          rw [decide_eq_false c2, Bool.and_false, Bool.false_and] at k
          exact iteT (k _ (Same.refl _))
      · rw [decide_eq_false (show ¬ (1 : Int) ≤ (z.length : Int) by omega)]
        rw [decide_eq_false c1, Bool.false_and, Bool.false_and] at k
        exact iteF ⟨_, rfl, iteT (k _ (Same.refl _))⟩
end
end S4

namespace S4
open PySem PySem.Spec PyProof.Rows L2 KT
open PySem.W (Frag)
theorem hu65 {A : Around} {k : Nat} (hr : Room k A) : A.units + 65 < cLine := by have := hr.un; omega
def D.isSig : D → Bool
  | .t [.s g, _, _] => (sgOf g).isSome
  | _ => false
def D.isKd (d : D) : Bool := d.ty.isSome
theorem signs_any (g : Str) : ([PyData.str "over", .str "then", .str "under"].any fun z => PyData.eqv z (.str g)) = (sgOf g).isSome := by
  have e : ∀ a : Str, PyData.eqv (.str a) (.str g) = decide (g = a) := fun a => by
    simp only [PyData.eqv]
    rw [Bool.eq_iff_iff, beq_iff_eq, decide_eq_true_eq]
    exact eq_comm
  simp only [List.any_cons, List.any_nil, Bool.or_false, e]
  unfold sgOf
  by_cases h1 : g = "over"
  · rw [if_pos h1, decide_eq_true h1]; rfl
  · rw [if_neg h1, decide_eq_false h1]
    by_cases h2 : g = "then"
    · rw [if_pos h2, decide_eq_true h2]; rfl
    · rw [if_neg h2, decide_eq_false h2]
      by_cases h3 : g = "under"
      · rw [if_pos h3, decide_eq_true h3]; rfl
      · rw [if_neg h3, decide_eq_false h3]; rfl
theorem signs_any0 (d : D) (h : d.isStr = false) : ([PyData.str "over", .str "then", .str "under"].any fun z => PyData.eqv z d.py) = false := by
  cases d with
  | s z => cases h
  | i n => simp [D.py, PyData.eqv]
  | o => simp [D.py, PyData.eqv]
  | t l => simp [D.py, PyData.eqv]
theorem isSig_ty {d : D} (h : d.isSig = true) : ∃ g a b, d = .t [.s g, a, b] ∧ d.isKd = (a.isKd && b.isKd) := by
  unfold D.isSig at h
  split at h
  · rename_i g a b
    refine ⟨g, a, b, rfl, ?_⟩
    obtain ⟨g', hg⟩ := Option.isSome_iff_exists.mp h
    simp only [D.isKd, D.ty, tyAll, mkTy]
    cases a.ty <;> cases b.ty <;> simp [hg]
  · cases h
theorem nsig_ty {d : D} (h : d.isSig = false) : d.isKd = d.isWord := by
  cases d with
  | s z =>
    simp only [D.isKd, D.ty, D.isWord]
    cases e : isWB z <;> simp
  | i n => simp [D.isKd, D.ty, D.isWord]
  | o => simp [D.isKd, D.ty, D.isWord]
  | t l =>
    simp only [D.isKd, D.ty, D.isWord]
    cases e : mkTy l (tyAll l) with
    | none => rfl
    | some t =>
      obtain ⟨g, x, y, a, b, rfl, _, _⟩ := mkTy_inv e
      simp [D.isSig, sgOf_str] at h
theorem dep_head {a : D} {r : List D} {n : Nat} (h : (D.t (a :: r)).dep ≤ n + 1) : a.dep ≤ n ∧ depAll r ≤ n := by
  simp only [D.dep, depAll] at h
  omega
section
variable {P : Program} {w : World} {K : Frag} {mg : Str → Option Value} {base : Heap}
def spIsSignedD : Sp := fun vs H Q _ => ∃ v d, vs = [v] ∧ DAt H v d ∧ d.dep ≤ 60 ∧ Q (.bl d.isSig) H
theorem ok_isSignedD {f : Addr} {fd : FuncData} (T : Top K mg "_is_signed" sIsSigned pIsSigned f fd) (B : Blt mg) (G : Gbl K mg) : FnOk P w K mg base CX0 1 f fd pIsSigned spIsSignedD := by
  obtain ⟨sa, gs, hs⟩ := G.signs
  refine T.F.ok scIsSigned (fun vs H Q E h => ?_) (fun cdv A outer s H vs Q E hr h => ?_)
  · obtain ⟨_, _, rfl, _⟩ := h
    rfl
  · obtain ⟨v, d, rfl, hd, hdep, k⟩ := h
    refine ⟨_, pss_one (ps_ret (pe_and (pe_callB call_isi (by rfl) B.isi (by decide +kernel) (pa_cons (pv 0) (pa_cons (pe_bltn (v := .ty "tuple") (by rfl) B.tuple (by decide +kernel) rfl) pa_nil))) (pe_and (pe_cmpR op_eq (pe_callB call_len_seq (by rfl) B.len PySem.boot_len (pa_cons (pv 0) pa_nil)) pe_int (nomark _)) (pe_one (pe_cmpR (KT.op_inDT (hu65 hr)) (pe_ix ix_tup (pv 0) pe_int (fun _ _ => rfl)) (pe_glob (v := .ref sa) rfl gs rfl) (by rfl)))))), ?_⟩
    refine ⟨_, rfl, _, _, _, _, d.isTup, rfl, .ty "tuple", hd.tyx, d.ktup, _, rfl, ?_⟩
    cases hd with
    | s h => exact k
    | i n => exact k
    | o => exact k
    | @t p xs ds e h =>
      have hl := h.length
      refine ⟨_, rfl, p, xs, rfl, .inr (SqT.of e), rfl, _, rfl, ?_⟩
      by_cases c : xs.length = 3
      · rw [decide_eq_true (show (V.int (xs.length : Int)) = V.int 3 by rw [c]; rfl)]
        cases h with
        | nil => simp at c
        | @cons x xs d0 ds h0 h =>
          cases h with
          | nil => simp at c
          | @cons x1 xs d1 ds h1 h =>
            cases h with
            | nil => simp at c
            | @cons x2 xs d2 ds h2 h =>
              cases h with
              | cons _ _ => simp at c
              | nil =>
                have dd := (dep_head (n := 59) hdep).1
                have hp := (DAt.py (K := K) h0).1
                refine ⟨_, rfl, p, _, _, _, rfl, rfl, SqT.of e, atI_nat (j := 0) rfl, d0.py, _, hp, .tup (sqT_any hs) (.cons (.str _) (.cons (.str _) (.cons (.str _) .nil))), DAt.shaped (K := K) h0 (by omega), by decide +kernel, ?_⟩
                rw [if_neg (by decide)]
                cases h0 with
                | s h => rw [show (D.s _).py = PyData.str _ from rfl, signs_any]; exact k
                | i n => rw [signs_any0 _ rfl]; exact k
                | o => rw [signs_any0 _ rfl]; exact k
                | t e h => rw [signs_any0 _ rfl]; exact k
      · rw [decide_eq_false (show ¬ (V.int (xs.length : Int)) = V.int 3 from fun z => c (by injection z with z; omega))]
        have e0 : (D.t ds).isSig = false := by
          unfold D.isSig
          split
          · rename_i g a b heq
            injection heq with heq
            rw [heq] at hl
            exact absurd hl c
          · rfl
        rw [e0] at k
        exact k
def spIsKindD : Sp := fun vs H Q _ => ∃ v d, vs = [v] ∧ DAt H v d ∧ d.dep ≤ 60 ∧ d.size ≤ 1000000 ∧ ∀ H', Same H H' → Q (.bl d.isKd) H'
theorem ok_isKindD {f fs fw : Addr} {fd fds fdw : FuncData} (T : Top K mg "is_kind" sIsKind pIsKind f fd) (TS : Top K mg "_is_signed" sIsSigned pIsSigned fs fds) (TW : Top K mg "is_word" sIsWord pIsWord fw fdw) (B : Blt mg) (G : Gbl K mg) :
    FnOk P w K mg base CX0 2 f fd pIsKind spIsKindD := by
  have GS : FnOk P w K mg base CX0 1 fs fds pIsSigned spIsSignedD := ok_isSignedD TS B G
  have GW : FnOk P w K mg base CX0 1 fw fdw pIsWord spIsWordD := ok_isWordD TW B G
  refine T.F.ok scIsKind (fun vs H Q E h => ?_) (fun cdv A outer s H vs Q E hr h => ?_)
  · obtain ⟨_, _, rfl, _⟩ := h
    rfl
  · obtain ⟨v, d, rfl, hd, hdep, hz, k⟩ := h
    refine ⟨_, (pss_cons (ps_set (i := 1) scIsKind.nd rfl (Or.inl rfl) (pe_lst (pa_cons (pv 0) pa_nil)))
      (pss_cons (ps_while PassesOwn.never (pt_truth (pv 1) (by intro _; rfl))
        (pss_cons (ps_set (i := 2) scIsKind.nd rfl (Or.inl rfl) (pe_bm0 PySem.F.plainAttrs_list PySem.F.slot_list_pop PySem.F.type_list_pop mt_pop (pv 1)))
      (pss_one (ps_if (pt_val (pe_call GS hr rfl TS.g TS.F.kp TS.b .nil pass0 (pa_cons (pv 2) pa_nil))) (pss_one (ps_expr (pe_bm PySem.F.plainAttrs_list PySem.F.slot_list_extend PySem.F.type_list_extend KT.mt_extT (pv 1) (pa_cons (pe_slice sl_tup (pv 2) (po_some pe_int) po_none) pa_nil))))
            (pss_one (ps_if (pt_not (pt_val (pe_call GW hr rfl TW.g TW.F.kp TW.b .nil pass0 (pa_cons (pv 2) pa_nil)))) (pss_one (ps_ret pe_bl)) pss_nil))))))
      (pss_one (ps_ret pe_bl)))), ?_⟩
    refine ⟨v, rfl, by show 1 ≤ sizeLine; rw [sizeLine_eq]; omega, fun W hW => ?_⟩
    refine ⟨fun m σ H' => ∃ (vs : List V) (ds : List D) (v2 : Option V), σ = [some v, some (.ref W), v2] ∧ H' W = some (.lst vs.reverse) ∧ DsAt H' vs ds ∧ sizeAll ds = m ∧ m ≤ 1000000 ∧ (∀ u ∈ ds, u.dep ≤ 60) ∧ d.isKd = ds.all D.isKd ∧ Same H H',
      ⟨d.size, [v], [d], none, rfl, upd_same, .cons (hd.mono (TK.upd_new hW)) .nil, by simp [sizeAll], hz, fun u hu => by rw [List.mem_singleton.mp hu]; exact hdep, by simp, same_upd hW⟩, ?_⟩
    rintro m σ H1 ⟨vs, ds, v2, rfl, hL, hT, rfl, hm, hdp, hall, hs⟩
    refine ⟨_, rfl, _, .inl ⟨_, SqL.of hL, rfl⟩, ?_⟩
    cases hT with
    | nil =>
      have q := k H1 hs
      rw [hall] at q
      exact iteF q
    | @cons y vs u ds h1 h2 =>
      have el : (y :: vs).reverse = vs.reverse ++ [y] := List.reverse_cons
      have c : (!(y :: vs).reverse.isEmpty) = true := by rw [el]; simp
      rw [c]
      have hm' : u.size + sizeAll ds ≤ 1000000 := hm
      have up := u.size_pos
      refine iteT ⟨fun σ' H' => ∃ m' < sizeAll (u :: ds), ∃ (vs : List V) (ds : List D) (v2 : Option V), σ' = [some v, some (.ref W), v2] ∧ H' W = some (.lst vs.reverse) ∧ DsAt H' vs ds ∧ sizeAll ds = m' ∧ m' ≤ 1000000 ∧ (∀ u ∈ ds, u.dep ≤ 60) ∧ d.isKd = ds.all D.isKd ∧ Same H H', fun σ' H' q => q, ?_⟩
      refine ⟨_, rfl, .inl ⟨rfl, _, SqL.of hL⟩, W, _, y, rfl, rfl, hL, by rw [el]; simp, ?_⟩
      have ed : (y :: vs).reverse.dropLast = vs.reverse := by rw [el]; simp
      rw [ed]
      have tk : TK H1 (upd H1 W (.lst vs.reverse)) := TK.upd_lst hL
      have hs' : Same H (upd H1 W (.lst vs.reverse)) := same_over hs hW
      have h1' := h1.mono tk
      rw [List.all_cons] at hall
      refine ⟨y, rfl, y, u, rfl, h1', hdp u List.mem_cons_self, _, rfl, ?_⟩
      cases sg : u.isSig with
      | false =>
        refine iteF ⟨_, rfl, y, u, rfl, h1', fun H2 s2 => ⟨_, rfl, ?_⟩⟩
        rw [nsig_ty sg] at hall
        cases ww : u.isWord with
        | false =>
          rw [ww, Bool.false_and] at hall
          have q := k H2 (hs'.trans s2)
          rw [hall] at q
          exact iteT q
        | true =>
          rw [ww, Bool.true_and] at hall
          exact iteF ⟨sizeAll ds, by show _ < u.size + sizeAll ds; omega, vs, ds, _, rfl, s2 _ _ upd_same, h2.mono (tk.trans (TK.of_same s2)), rfl, by omega, fun z hz => hdp z (List.mem_cons_of_mem _ hz), hall, hs'.trans s2⟩
      | true =>
        obtain ⟨g, a, b, rfl, ek⟩ := isSig_ty sg
        rw [ek] at hall
        have dd := hdp _ List.mem_cons_self
        have da : a.dep ≤ 60 ∧ b.dep ≤ 60 := by
          simp only [D.dep, depAll] at dd
          omega
        have sz : (D.t [.s g, a, b]).size = a.size + b.size + 2 := by simp only [D.size, sizeAll]; omega
        cases h1 with
        | @t p xs _ e h =>
          cases h with
          | @cons x0 xs _ _ k0 h => cases h with
            | @cons x1 xs _ _ k1 h => cases h with
              | @cons x2 xs _ _ k2 h => cases h with
                | nil =>
                  refine iteT ⟨_, rfl, .inl ⟨rfl, _, SqL.of upd_same⟩, _, rfl, _, rfl, p, _, rfl, SqT.of (tk _ _ e), cut_not, fun p' hp => ?_⟩
                  have np : W ≠ p' := ne_of_none upd_same hp
                  have l1 := h2.length
                  have l2 : ds.length ≤ sizeAll ds := by
                    clear hm hm' hall hdp h2 sz k hs l1
                    induction ds with
                    | nil => exact Nat.zero_le _
                    | cons z r ih =>
                      have := z.size_pos
                      simp only [List.length_cons, sizeAll]
                      omega
                  refine ⟨W, p', _, _, rfl, rfl, by rw [upd_ne np, upd_same], SqT.of upd_same, ?_, ?_⟩
                  · show vs.reverse.length + 2 ≤ sizeLine
                    rw [List.length_reverse, sizeLine_eq]
                    omega
                  · have tk2 : TK H1 (upd (upd (upd H1 W (.lst vs.reverse)) p' (.tup [x1, x2])) W (.lst (vs.reverse ++ [x1, x2]))) := (tk.trans (TK.upd_new hp)).trans (TK.upd_lst (by rw [upd_ne np, upd_same]))
                    refine ⟨b.size + (a.size + sizeAll ds), ?_, x2 :: x1 :: vs, b :: a :: ds, _, rfl, ?_, .cons (k2.mono tk2) (.cons (k1.mono tk2) (h2.mono tk2)), rfl, ?_, ?_, ?_, ?_⟩
                    · show _ < (D.t [.s g, a, b]).size + sizeAll ds
                      omega
                    · rw [upd_same]
                      simp
                      rfl
                    · omega
                    · intro z hz
                      rcases List.mem_cons.mp hz with rfl | hz
                      · exact da.2
                      · rcases List.mem_cons.mp hz with rfl | hz
                        · exact da.1
                        · exact hdp z (List.mem_cons_of_mem _ hz)
                    · rw [hall, List.all_cons, List.all_cons, ← Bool.and_assoc, Bool.and_comm b.isKd]
                    · exact same_over (hs'.trans (same_upd hp)) hW
end
end S4

namespace S4
open PySem PySem.Spec PyProof.Rows L2 KT
open PySem.W (Frag)
/-! ### the form of knots -/
inductive Fm : D → Prop
  | is {x : D} : x.isKd = true → Fm (.t [.s "is", x])
  | om {x : D} : Fm (.t [.s "over made", x])
  | um {x : D} : Fm (.t [.s "under made", x])
  | tm {x y : D} : Fm (.t [.s "then made", x, y])
  | tu {p : Int} {y : D} : 0 ≤ p → Fm (.t [.s "then used", .i p, y])
  | ou {p : Int} {x y : D} : 0 ≤ p → Fm (.t [.s "over used", .i p, x, y])
  | uu {p : Int} {x y : D} : 0 ≤ p → Fm (.t [.s "under used", .i p, x, y])
  | ct {p : Int} {x y : D} : 0 ≤ p → Fm (.t [.s "cut", .i p, x, y])
theorem fm_of {u : D} (h : u.formed = true) : Fm u := by
  unfold D.formed at h
  split at h
  · rename_i nm x
    split at h
    · rename_i e
      subst e
      exact .is h
    · rw [Bool.or_eq_true, decide_eq_true_eq, decide_eq_true_eq] at h
      rcases h with e | e
      · subst e; exact .om
      · subst e; exact .um
  · rename_i nm x y
    rw [Bool.or_eq_true, Bool.and_eq_true, decide_eq_true_eq, decide_eq_true_eq] at h
    rcases h with e | ⟨e, h⟩
    · subst e; exact .tm
    · subst e
      split at h
      · exact .tu (of_decide_eq_true h)
      · cases h
  · rename_i nm x y z
    rw [Bool.and_eq_true] at h
    obtain ⟨h1, h2⟩ := h
    split at h2
    · have hp := of_decide_eq_true h2
      unfold placed at h1
      rw [Bool.or_eq_true, Bool.or_eq_true, decide_eq_true_eq, decide_eq_true_eq, decide_eq_true_eq] at h1
      rcases h1 with (e | e) | e
      · subst e; exact .ou hp
      · subst e; exact .uu hp
      · subst e; exact .ct hp
    · cases h2
  · cases h
theorem Fm.formed {u : D} (h : Fm u) : u.formed = true := by
  cases h with
  | is h => exact h
  | om => rfl
  | um => rfl
  | tm => rfl
  | tu h => simp [D.formed, h]
  | ou h => simp [D.formed, h, placed]
  | uu h => simp [D.formed, h, placed]
  | ct h => simp [D.formed, h, placed]
def PL : List Str := ["over used", "under used", "then used", "cut"]
/-- where a knot's parts stand -/
theorem Fm.head {u : D} (h : Fm u) : ∃ nm r, u = .t (.s nm :: r) ∧ TxtOk nm ∧ u.parts = if nm = "is" then [] else r.drop (if nm ∈ PL then 1 else 0) := by
  cases h with
  | is h => exact ⟨_, _, rfl, ⟨by decide +kernel, by decide +kernel⟩, rfl⟩
  | om => exact ⟨_, _, rfl, ⟨by decide +kernel, by decide +kernel⟩, rfl⟩
  | um => exact ⟨_, _, rfl, ⟨by decide +kernel, by decide +kernel⟩, rfl⟩
  | tm => exact ⟨_, _, rfl, ⟨by decide +kernel, by decide +kernel⟩, rfl⟩
  | tu h => exact ⟨_, _, rfl, ⟨by decide +kernel, by decide +kernel⟩, rfl⟩
  | ou h => exact ⟨_, _, rfl, ⟨by decide +kernel, by decide +kernel⟩, rfl⟩
  | uu h => exact ⟨_, _, rfl, ⟨by decide +kernel, by decide +kernel⟩, rfl⟩
  | ct h => exact ⟨_, _, rfl, ⟨by decide +kernel, by decide +kernel⟩, rfl⟩
theorem allK_fm {u : D} (h : u.allK = true) : Fm u ∧ ∀ p ∈ u.parts, p.allK = true := by
  cases u with
  | s z => cases h
  | i n => cases h
  | o => cases h
  | t l =>
    simp only [D.allK, allKOf, Bool.and_eq_true] at h
    obtain ⟨h1, h2⟩ := h
    have f := fm_of h1
    refine ⟨f, ?_⟩
    cases f with
    | is _ => intro p hp; cases hp
    | om => intro p hp; rw [List.mem_singleton.mp hp]; exact h2
    | um => intro p hp; rw [List.mem_singleton.mp hp]; exact h2
    | tm =>
      have h2 : (_ && _) = true := h2
      rw [Bool.and_eq_true] at h2
      intro p hp
      rcases List.mem_cons.mp hp with rfl | hp
      · exact h2.1
      · rw [List.mem_singleton.mp hp]; exact h2.2
    | tu _ => intro p hp; rw [List.mem_singleton.mp hp]; exact h2
    | ou _ =>
      have h2 : (_ && _) = true := h2
      rw [Bool.and_eq_true] at h2
      intro p hp
      rcases List.mem_cons.mp hp with rfl | hp
      · exact h2.1
      · rw [List.mem_singleton.mp hp]; exact h2.2
    | uu _ =>
      have h2 : (_ && _) = true := h2
      rw [Bool.and_eq_true] at h2
      intro p hp
      rcases List.mem_cons.mp hp with rfl | hp
      · exact h2.1
      · rw [List.mem_singleton.mp hp]; exact h2.2
    | ct _ =>
      have h2 : (_ && _) = true := h2
      rw [Bool.and_eq_true] at h2
      intro p hp
      rcases List.mem_cons.mp hp with rfl | hp
      · exact h2.1
      · rw [List.mem_singleton.mp hp]; exact h2.2
theorem fm_allK {u : D} (f : Fm u) (h : ∀ p ∈ u.parts, p.allK = true) : u.allK = true := by
  have h1 := f.formed
  cases f with
  | is _ => simp only [D.allK, allKOf, h1, Bool.true_and]; rfl
  | om => simp only [D.allK, allKOf, h1, Bool.true_and]; exact h _ List.mem_cons_self
  | um => simp only [D.allK, allKOf, h1, Bool.true_and]; exact h _ List.mem_cons_self
  | tm => simp only [D.allK, allKOf, h1, Bool.true_and]; exact Bool.and_eq_true_iff.mpr ⟨h _ List.mem_cons_self, h _ (List.mem_cons_of_mem _ List.mem_cons_self)⟩
  | tu _ => simp only [D.allK, allKOf, h1, Bool.true_and]; exact h _ List.mem_cons_self
  | ou _ => simp only [D.allK, allKOf, h1, Bool.true_and]; exact Bool.and_eq_true_iff.mpr ⟨h _ List.mem_cons_self, h _ (List.mem_cons_of_mem _ List.mem_cons_self)⟩
  | uu _ => simp only [D.allK, allKOf, h1, Bool.true_and]; exact Bool.and_eq_true_iff.mpr ⟨h _ List.mem_cons_self, h _ (List.mem_cons_of_mem _ List.mem_cons_self)⟩
  | ct _ => simp only [D.allK, allKOf, h1, Bool.true_and]; exact Bool.and_eq_true_iff.mpr ⟨h _ List.mem_cons_self, h _ (List.mem_cons_of_mem _ List.mem_cons_self)⟩
def nodesAll : List D → List D
  | [] => []
  | d :: r => d.nodes ++ nodesAll r
theorem Fm.nodes {u : D} (f : Fm u) : u.nodes = u :: nodesAll u.parts.reverse := by
  have e1 : ("over made" : Str) ≠ "is" := by decide
  have e2 : ("under made" : Str) ≠ "is" := by decide
  have e3 : ("then made" : Str) ≠ "then used" := by decide
  cases f <;> simp [D.nodes, nodesOf, nodesLs, D.parts, nodesAll, e1, e2, e3]
theorem Fm.psize {u : D} (f : Fm u) : sizeAll u.parts < u.size ∧ u.parts.length ≤ 2 := by
  have e1 : ("over made" : Str) ≠ "is" := by decide
  have e2 : ("under made" : Str) ≠ "is" := by decide
  have e3 : ("then made" : Str) ≠ "then used" := by decide
  cases f <;> simp [D.parts, D.size, sizeAll, e1, e2, e3] <;> omega
theorem sizeAll_app : ∀ l r : List D, sizeAll (l ++ r) = sizeAll l + sizeAll r
  | [], r => by simp [sizeAll]
  | d :: l, r => by simp only [List.cons_append, sizeAll, sizeAll_app l r]; omega
theorem sizeAll_rev (l : List D) : sizeAll l.reverse = sizeAll l := by
  induction l with
  | nil => rfl
  | cons d r ih => rw [List.reverse_cons, sizeAll_app, ih]; simp only [sizeAll]; omega
theorem len_size : ∀ l : List D, l.length ≤ sizeAll l
  | [] => Nat.zero_le _
  | d :: r => by
    have := d.size_pos
    have := len_size r
    simp only [List.length_cons, sizeAll]
    omega
theorem nodesAll_app : ∀ l r : List D, nodesAll (l ++ r) = nodesAll l ++ nodesAll r
  | [], r => rfl
  | d :: l, r => by simp only [List.cons_append, nodesAll, nodesAll_app l r, List.append_assoc]
theorem DsAt.drop {H : Hp} {vs : List V} {ds : List D} (h : DsAt H vs ds) : ∀ n, DsAt H (vs.drop n) (ds.drop n) := by
  intro n
  induction n generalizing vs ds with
  | zero => exact h
  | succ n ih =>
    cases h with
    | nil => exact .nil
    | cons a r => exact ih r
theorem DsAt.rev {H : Hp} {vs : List V} {ds : List D} (h : DsAt H vs ds) : DsAt H vs.reverse ds.reverse := by
  induction ds generalizing vs with
  | nil => cases h; exact .nil
  | cons d r ih =>
    cases h with
    | cons a s => rw [List.reverse_cons, List.reverse_cons]; exact (ih s).append (.cons a .nil)
theorem cutV_from {xs : List V} {b : Nat} : cutV xs (some (b : Int)) none = xs.drop b := by
  unfold cutV
  rw [HT.sIx_nat]
  have e : HT.sIx xs.length xs.length none = xs.length := rfl
  rw [e]
  by_cases h : b ≤ xs.length
  · rw [Nat.min_eq_left h]
    exact List.take_of_length_le (by simp)
  · rw [Nat.min_eq_right (by omega), List.drop_of_length_le (by omega : xs.length ≤ b), Nat.sub_self, List.take_zero]
/-- the module's own tables -/
structure Gb5 (K : Frag) (w : World) (mg : Str → Option Value) : Prop where
  pl : ∃ a, mg "_PLACED" = some (.ref a) ∧ SqT K (fun _ => none) a (PL.map V.str)
section
variable {P : Program} {w : World} {K : Frag} {mg : Str → Option Value} {base : Heap}
def spBegin : Sp := fun vs H Q _ => ∃ nm, vs = [.str nm] ∧ Q (.int ((if nm ∈ PL then 2 else 1 : Nat) : Int)) H
theorem ok_begin {f : Addr} {fd : FuncData} (T : Top K mg "_parts_begin" sPartsBegin pPartsBegin f fd) (G : Gb5 K w mg) : FnOk P w K mg base CX0 1 f fd pPartsBegin spBegin := by
  obtain ⟨sa, gs, hs⟩ := G.pl
  refine T.F.ok scPartsBegin (fun vs H Q E h => ?_) (fun cdv A outer s H vs Q E hr h => ?_)
  · obtain ⟨_, rfl, _⟩ := h
    rfl
  · obtain ⟨nm, rfl, k⟩ := h
    refine ⟨_, pss_one (ps_ret (pe_ifExp (pt_cmpR op_in_seq (pv 0) (pe_glob (v := .ref sa) rfl gs rfl) (by rfl)) pe_int pe_int)), ?_⟩
    refine ⟨_, rfl, sa, _, rfl, .inr (sqT_any hs), rfl, flat_map PL, _, rfl, ?_⟩
    rw [if_neg (by decide), inV_str]
    by_cases c : nm ∈ PL
    · rw [if_pos c] at k
      rw [decide_eq_true c]
      exact iteT k
    · rw [if_neg c] at k
      rw [decide_eq_false c]
      exact iteF k
def spPartsK : Sp := fun vs H Q _ => ∃ v u, vs = [v] ∧ DAt H v u ∧ Fm u ∧ ∀ p us, H p = none → DsAt H us u.parts → Q (.ref p) (upd H p (.tup us))
theorem ok_partsK {f fb : Addr} {fd fdb : FuncData} (T : Top K mg "parts_of_knot" sPartsOfKnot pPartsOfKnot f fd) (TB : Top K mg "_parts_begin" sPartsBegin pPartsBegin fb fdb) (G : Gb5 K w mg) : FnOk P w K mg base CX0 2 f fd pPartsOfKnot spPartsK := by
  have GB : FnOk P w K mg base CX0 1 fb fdb pPartsBegin spBegin := ok_begin TB G
  refine T.F.ok scPartsOfKnot (fun vs H Q E h => ?_) (fun cdv A outer s H vs Q E hr h => ?_)
  · obtain ⟨_, _, rfl, _⟩ := h
    rfl
  · obtain ⟨v, u, rfl, hd, f, k⟩ := h
    refine ⟨_, pss_one (ps_ret (pe_ifExp (pt_cmpR op_eq (pe_ix ix_tup (pv 0) pe_int (fun _ _ => rfl)) pe_str (nomark _)) (pe_tup pa_nil) (pe_slice sl_tup (pv 0) (po_some (pe_call GB hr rfl TB.g TB.F.kp TB.b .nil pass0 (pa_cons (pe_ix ix_tup (pv 0) pe_int (fun _ _ => rfl)) pa_nil))) po_none))), ?_⟩
    obtain ⟨nm, r, rfl, ok, ep⟩ := f.head
    rw [ep] at k
    cases hd with
    | @t p xs _ e h =>
      cases h with
      | @cons x xs _ _ h0 h =>
        cases h0
        refine ⟨_, rfl, p, _, _, _, rfl, rfl, SqT.of e, atI_nat (j := 0) rfl, rfl, _, rfl, ?_⟩
        by_cases c : nm = "is"
        · rw [if_pos c] at k
          rw [decide_eq_true (show V.str nm = V.str "is" by rw [c])]
          exact iteT ⟨Nat.zero_le _, fun q hq => k q [] hq .nil⟩
        · rw [if_neg c] at k
          rw [decide_eq_false (show ¬ V.str nm = V.str "is" from fun z => c (by injection z))]
          refine iteF ⟨_, rfl, _, rfl, p, _, _, _, rfl, rfl, SqT.of e, atI_nat (j := 0) rfl, nm, rfl, _, rfl, ?_⟩
          refine ⟨p, _, rfl, SqT.of e, ?_, fun q hq => ?_⟩
          · rintro ⟨z, _⟩
            rw [HT.sIx_nat] at z
            simp only [List.length_cons] at z
            split at z <;> omega
          · rw [cutV_from]
            refine k q _ hq ?_
            have q2 := h.drop (if nm ∈ PL then 1 else 0)
            have e2 : ∀ (α : Type) (a : α) (l : List α), (a :: l).drop (if nm ∈ PL then 2 else 1) = l.drop (if nm ∈ PL then 1 else 0) := fun α a l => by split <;> rfl
            rw [e2]
            exact q2
end
end S4

namespace S4
open PySem PySem.Spec PyProof.Rows L2 KT
open PySem.W (Frag)
@[simp] theorem nm01 : (("is" : Str) = "over made") = False := eq_false (by decide)
@[simp] theorem nm02 : (("is" : Str) = "under made") = False := eq_false (by decide)
@[simp] theorem nm03 : (("is" : Str) = "then made") = False := eq_false (by decide)
@[simp] theorem nm04 : (("is" : Str) = "over used") = False := eq_false (by decide)
@[simp] theorem nm05 : (("is" : Str) = "under used") = False := eq_false (by decide)
@[simp] theorem nm06 : (("is" : Str) = "then used") = False := eq_false (by decide)
@[simp] theorem nm07 : (("is" : Str) = "cut") = False := eq_false (by decide)
@[simp] theorem nm10 : (("over made" : Str) = "is") = False := eq_false (by decide)
@[simp] theorem nm12 : (("over made" : Str) = "under made") = False := eq_false (by decide)
@[simp] theorem nm13 : (("over made" : Str) = "then made") = False := eq_false (by decide)
@[simp] theorem nm14 : (("over made" : Str) = "over used") = False := eq_false (by decide)
@[simp] theorem nm15 : (("over made" : Str) = "under used") = False := eq_false (by decide)
@[simp] theorem nm16 : (("over made" : Str) = "then used") = False := eq_false (by decide)
@[simp] theorem nm17 : (("over made" : Str) = "cut") = False := eq_false (by decide)
@[simp] theorem nm20 : (("under made" : Str) = "is") = False := eq_false (by decide)
@[simp] theorem nm21 : (("under made" : Str) = "over made") = False := eq_false (by decide)
@[simp] theorem nm23 : (("under made" : Str) = "then made") = False := eq_false (by decide)
@[simp] theorem nm24 : (("under made" : Str) = "over used") = False := eq_false (by decide)
@[simp] theorem nm25 : (("under made" : Str) = "under used") = False := eq_false (by decide)
@[simp] theorem nm26 : (("under made" : Str) = "then used") = False := eq_false (by decide)
@[simp] theorem nm27 : (("under made" : Str) = "cut") = False := eq_false (by decide)
@[simp] theorem nm30 : (("then made" : Str) = "is") = False := eq_false (by decide)
@[simp] theorem nm31 : (("then made" : Str) = "over made") = False := eq_false (by decide)
@[simp] theorem nm32 : (("then made" : Str) = "under made") = False := eq_false (by decide)
@[simp] theorem nm34 : (("then made" : Str) = "over used") = False := eq_false (by decide)
@[simp] theorem nm35 : (("then made" : Str) = "under used") = False := eq_false (by decide)
@[simp] theorem nm36 : (("then made" : Str) = "then used") = False := eq_false (by decide)
@[simp] theorem nm37 : (("then made" : Str) = "cut") = False := eq_false (by decide)
@[simp] theorem nm40 : (("over used" : Str) = "is") = False := eq_false (by decide)
@[simp] theorem nm41 : (("over used" : Str) = "over made") = False := eq_false (by decide)
@[simp] theorem nm42 : (("over used" : Str) = "under made") = False := eq_false (by decide)
@[simp] theorem nm43 : (("over used" : Str) = "then made") = False := eq_false (by decide)
@[simp] theorem nm45 : (("over used" : Str) = "under used") = False := eq_false (by decide)
@[simp] theorem nm46 : (("over used" : Str) = "then used") = False := eq_false (by decide)
@[simp] theorem nm47 : (("over used" : Str) = "cut") = False := eq_false (by decide)
@[simp] theorem nm50 : (("under used" : Str) = "is") = False := eq_false (by decide)
@[simp] theorem nm51 : (("under used" : Str) = "over made") = False := eq_false (by decide)
@[simp] theorem nm52 : (("under used" : Str) = "under made") = False := eq_false (by decide)
@[simp] theorem nm53 : (("under used" : Str) = "then made") = False := eq_false (by decide)
@[simp] theorem nm54 : (("under used" : Str) = "over used") = False := eq_false (by decide)
@[simp] theorem nm56 : (("under used" : Str) = "then used") = False := eq_false (by decide)
@[simp] theorem nm57 : (("under used" : Str) = "cut") = False := eq_false (by decide)
@[simp] theorem nm60 : (("then used" : Str) = "is") = False := eq_false (by decide)
@[simp] theorem nm61 : (("then used" : Str) = "over made") = False := eq_false (by decide)
@[simp] theorem nm62 : (("then used" : Str) = "under made") = False := eq_false (by decide)
@[simp] theorem nm63 : (("then used" : Str) = "then made") = False := eq_false (by decide)
@[simp] theorem nm64 : (("then used" : Str) = "over used") = False := eq_false (by decide)
@[simp] theorem nm65 : (("then used" : Str) = "under used") = False := eq_false (by decide)
@[simp] theorem nm67 : (("then used" : Str) = "cut") = False := eq_false (by decide)
@[simp] theorem nm70 : (("cut" : Str) = "is") = False := eq_false (by decide)
@[simp] theorem nm71 : (("cut" : Str) = "over made") = False := eq_false (by decide)
@[simp] theorem nm72 : (("cut" : Str) = "under made") = False := eq_false (by decide)
@[simp] theorem nm73 : (("cut" : Str) = "then made") = False := eq_false (by decide)
@[simp] theorem nm74 : (("cut" : Str) = "over used") = False := eq_false (by decide)
@[simp] theorem nm75 : (("cut" : Str) = "under used") = False := eq_false (by decide)
@[simp] theorem nm76 : (("cut" : Str) = "then used") = False := eq_false (by decide)
def MANY (z : Str) : Option Nat := if z = "is" then some 0 else if z = "over made" then some 1 else if z = "under made" then some 1 else if z = "then made" then some 2 else if z = "over used" then some 2 else if z = "under used" then some 2 else if z = "then used" then some 1 else if z = "cut" then some 2 else none
def D.isCnt : D → Bool
  | .i n => decide (0 ≤ n)
  | _ => false
/-- the same, as the program asks it -/
def formB (nm : Str) (r : List D) : Bool := match MANY nm with
  | none => false
  | some m => if nm = "is" then decide (r.length = 1) && (r.getD 0 .o).isKd else if 1 + r.length = (if nm ∈ PL then 2 else 1) + m then !decide (nm ∈ PL) || (r.getD 0 .o).isCnt else false
theorem formed_eq (nm : Str) (r : List D) : (D.t (.s nm :: r)).formed = formB nm r := by
  unfold formB
  by_cases h1 : nm = "is"
  · subst h1
    rcases r with _ | ⟨a, _ | ⟨b, _ | ⟨c, _ | ⟨d, r⟩⟩⟩⟩ <;> simp [D.formed, MANY, D.isKd, placed]
  by_cases h2 : nm = "over made"
  · subst h2
    rcases r with _ | ⟨a, _ | ⟨b, _ | ⟨c, _ | ⟨d, r⟩⟩⟩⟩ <;> simp [D.formed, MANY, PL, placed] <;> omega
  by_cases h3 : nm = "under made"
  · subst h3
    rcases r with _ | ⟨a, _ | ⟨b, _ | ⟨c, _ | ⟨d, r⟩⟩⟩⟩ <;> simp [D.formed, MANY, PL, placed] <;> omega
  by_cases h4 : nm = "then made"
  · subst h4
    rcases r with _ | ⟨a, _ | ⟨b, _ | ⟨c, _ | ⟨d, r⟩⟩⟩⟩ <;> simp [D.formed, MANY, PL, placed] <;> omega
  by_cases h5 : nm = "over used"
  · subst h5
    rcases r with _ | ⟨a, _ | ⟨b, _ | ⟨c, _ | ⟨d, r⟩⟩⟩⟩ <;> simp [D.formed, MANY, PL, placed] <;> first | (intro z; omega) | (cases a <;> simp [D.isCnt])
  by_cases h6 : nm = "under used"
  · subst h6
    rcases r with _ | ⟨a, _ | ⟨b, _ | ⟨c, _ | ⟨d, r⟩⟩⟩⟩ <;> simp [D.formed, MANY, PL, placed] <;> first | (intro z; omega) | (cases a <;> simp [D.isCnt])
  by_cases h7 : nm = "then used"
  · subst h7
    rcases r with _ | ⟨a, _ | ⟨b, _ | ⟨c, _ | ⟨d, r⟩⟩⟩⟩ <;> simp [D.formed, MANY, PL, placed] <;> first | (intro z; omega) | (cases a <;> simp [D.isCnt])
  by_cases h8 : nm = "cut"
  · subst h8
    rcases r with _ | ⟨a, _ | ⟨b, _ | ⟨c, _ | ⟨d, r⟩⟩⟩⟩ <;> simp [D.formed, MANY, PL, placed] <;> first | (intro z; omega) | (cases a <;> simp [D.isCnt])
  rcases r with _ | ⟨a, _ | ⟨b, _ | ⟨c, _ | ⟨d, r⟩⟩⟩⟩ <;> simp [D.formed, MANY, placed, h1, h2, h3, h4, h5, h6, h7, h8]
structure Gm5 (K : Frag) (w : World) (mg : Str → Option Value) : Prop where
  many : ∃ d es n, mg "_MANY_PARTS" = some (.ref d) ∧ KDict K w d es n ∧ ∀ z, ∃ r, PySem.W.nsIn K d z = some r ∧ r.isSome = (MANY z).isSome ∧ ∀ u, r = some u → ∃ m, MANY z = some m ∧ RelV (.int (m : Nat)) u
section
variable {P : Program} {w : World} {K : Frag} {mg : Str → Option Value} {base : Heap}
def spIsCountD : Sp := fun vs H Q _ => ∃ v d, vs = [v] ∧ DAt H v d ∧ Q (.bl d.isCnt) H
theorem ok_isCountD {f : Addr} {fd : FuncData} (T : Top K mg "is_count" sIsCount pIsCount f fd) (B : Blt mg) : FnOk P w K mg base CX0 1 f fd pIsCount spIsCountD := by
  refine T.F.ok scIsCount (fun vs H Q E h => ?_) (fun cdv A outer s H vs Q E hr h => ?_)
  · obtain ⟨_, _, rfl, _⟩ := h
    rfl
  · obtain ⟨v, d, rfl, hd, k⟩ := h
    refine ⟨_, pss_one (ps_ret (pe_and (pe_callB call_isi (by rfl) B.isi (by decide +kernel) (pa_cons (pv 0) (pa_cons (pe_bltn (v := .ty "int") (by rfl) B.int (by decide +kernel) rfl) pa_nil))) (pe_and (pe_not (pe_callB call_isi (by rfl) B.isi (by decide +kernel) (pa_cons (pv 0) (pa_cons (pe_bltn (v := .ty "bool") (by rfl) B.bool_ (by decide +kernel) rfl) pa_nil)))) (pe_one (pe_cmpR op_ge (pv 0) pe_int (nomark _)))))), ?_⟩
    refine ⟨_, rfl, _, _, _, _, d.isInt, rfl, .ty "int", hd.tyx, d.kint, _, rfl, ?_⟩
    cases hd with
    | s h => exact k
    | o => exact k
    | t e h => exact k
    | i n => exact ⟨_, rfl, _, _, _, _, false, rfl, .ty "bool", .base (.int n), kit_ty (by decide +kernel), false, rfl, true, rfl, _, rfl, _, _, rfl, rfl, k⟩
theorem formed_nstr {a : D} {r : List D} (h : a.isStr = false) : (D.t (a :: r)).formed = false := by
  cases a with
  | s z => cases h
  | i n => rcases r with _ | ⟨a, _ | ⟨b, _ | ⟨c, _ | ⟨d, r⟩⟩⟩⟩ <;> rfl
  | o => rcases r with _ | ⟨a, _ | ⟨b, _ | ⟨c, _ | ⟨d, r⟩⟩⟩⟩ <;> rfl
  | t l => rcases r with _ | ⟨a, _ | ⟨b, _ | ⟨c, _ | ⟨d, r⟩⟩⟩⟩ <;> rfl
theorem many_is {nm : Str} (h : nm = "is") : MANY nm = some 0 := by rw [h]; decide
def spHasForm : Sp := fun vs H Q _ => ∃ v d, vs = [v] ∧ DAt H v d ∧ d.dep ≤ 60 ∧ d.size ≤ 1000000 ∧ ∀ H', Same H H' → Q (.bl d.formed) H'
theorem ok_hasForm {f fk fb fc : Addr} {fd fdk fdb fdc : FuncData} (T : Top K mg "_has_form" sHasForm pHasForm f fd) (TK_ : Top K mg "is_kind" sIsKind pIsKind fk fdk) (TB : Top K mg "_parts_begin" sPartsBegin pPartsBegin fb fdb) (TC : Top K mg "is_count" sIsCount pIsCount fc fdc)
    (GK : FnOk P w K mg base CX0 2 fk fdk pIsKind spIsKindD) (B : Blt mg) (G : Gb5 K w mg) (M : Gm5 K w mg) : FnOk P w K mg base CX0 3 f fd pHasForm spHasForm := by
  have GB : FnOk P w K mg base CX0 1 fb fdb pPartsBegin spBegin := ok_begin TB G
  have GC : FnOk P w K mg base CX0 1 fc fdc pIsCount spIsCountD := ok_isCountD TC B
  obtain ⟨sa, gs, hs⟩ := G.pl
  obtain ⟨dd, es, n, gd, KD, hM⟩ := M.many
  refine T.F.ok scHasForm (fun vs H Q E h => ?_) (fun cdv A outer s H vs Q E hr h => ?_)
  · obtain ⟨_, _, rfl, _⟩ := h
    rfl
  · obtain ⟨v, d, rfl, hd, hdep, hz, k⟩ := h
    have hr1 : Room 1 _ := hr.mono (by decide)
    refine ⟨_, (pss_cons (ps_if (PW.pt (pw_or (pt_not (pt_val (pe_callB call_isi (by rfl) B.isi (by decide +kernel) (pa_cons (pv 0) (pa_cons (pe_bltn (v := .ty "tuple") (by rfl) B.tuple (by decide +kernel) rfl) pa_nil))))) (pw_or1 (pt_not (pt_truth (pv 0) (by intro _; rfl)))))) (pss_one (ps_ret pe_bl)) pss_nil)
      (pss_cons (ps_set (i := 1) scHasForm.nd rfl (Or.inl rfl) (pe_ix ix_tup (pv 0) pe_int (fun _ _ => rfl)))
      (pss_cons (ps_if (PW.pt (pw_or (pt_not (pt_val (pe_callB call_isi (by rfl) B.isi (by decide +kernel) (pa_cons (pv 1) (pa_cons (pe_bltn (v := .ty "str") (by rfl) B.str_ (by decide +kernel) rfl) pa_nil))))) (pw_or1 (pt_cmpR (op_notIn_kd KD) (pv 1) (pe_glob (v := .ref dd) rfl gd rfl) (by rfl))))) (pss_one (ps_ret pe_bl)) pss_nil)
      (pss_cons (ps_if (pt_cmpR op_eq (pv 1) pe_str (nomark _)) (pss_one (ps_ret (pe_and (pe_cmpR op_eq (pe_callB call_len_seq (by rfl) B.len PySem.boot_len (pa_cons (pv 0) pa_nil)) pe_int (nomark _)) (pe_one (pe_call GK hr rfl TK_.g TK_.F.kp TK_.b .nil pass0 (pa_cons (pe_ix ix_tup (pv 0) pe_int (fun _ _ => rfl)) pa_nil)))))) pss_nil)
      (pss_cons (ps_if (pt_cmpR op_ne (pe_callB call_len_seq (by rfl) B.len PySem.boot_len (pa_cons (pv 0) pa_nil)) (pe_op op_add (pe_call GB hr1 rfl TB.g TB.F.kp TB.b .nil pass0 (pa_cons (pv 1) pa_nil)) (pe_ix ix_kdict (pe_glob (v := .ref dd) rfl gd rfl) (pv 1) (fun _ _ => rfl))) (nomark _)) (pss_one (ps_ret pe_bl)) pss_nil)
      (pss_one (ps_ret (pe_or (pe_cmpR op_notIn_seq (pv 1) (pe_glob (v := .ref sa) rfl gs rfl) (by rfl)) (pe_one (pe_call GC hr1 rfl TC.g TC.F.kp TC.b .nil pass0 (pa_cons (pe_ix ix_tup (pv 0) pe_int (fun _ _ => rfl)) pa_nil))))))))))), ?_⟩
    refine ⟨_, rfl, _, _, _, _, d.isTup, rfl, .ty "tuple", hd.tyx, d.ktup, _, rfl, ?_⟩
    have k0 := k H (Same.refl H)
    cases hd with
    | s h => exact iteT k0
    | i n => exact iteT k0
    | o => exact iteT k0
    | @t p xs ds e h =>
      refine iteF ⟨_, rfl, _, .inr (.inl ⟨xs, SqT.of e, rfl⟩), ?_⟩
      cases h with
      | nil => exact iteT k0
      | @cons x0 xs a ds h0 h =>
        refine iteF ?_
        refine ⟨_, rfl, p, _, _, _, rfl, rfl, SqT.of e, atI_nat (j := 0) rfl, ?_⟩
        refine ⟨_, rfl, _, _, _, _, a.isStr, rfl, .ty "str", h0.tyx, a.kstr, _, rfl, ?_⟩
        cases ha : a.isStr with
        | false =>
          rw [formed_nstr ha] at k0
          exact iteT k0
        | true =>
          cases h0 with
          | i n => cases ha
          | o => cases ha
          | t _ _ => cases ha
          | @s nm ok =>
            rw [formed_eq] at k k0
            obtain ⟨r, hq1, hq2, hq3⟩ := hM nm
            refine iteF ⟨_, rfl, nm, r, rfl, rfl, hq1, _, rfl, ?_⟩
            have hl := h.length
            cases hm : MANY nm with
            | none =>
              rw [hm] at hq2
              have e1 : formB nm ds = false := by unfold formB; rw [hm]
              rw [e1] at k0
              rw [hq2]
              exact iteT k0
            | some m =>
              rw [hm] at hq2
              obtain ⟨u0, hu⟩ := Option.isSome_iff_exists.mp hq2
              obtain ⟨m', hm', hru⟩ := hq3 u0 hu
              rw [hm] at hm'
              cases hm'
              rw [hq2]
              refine iteF ⟨_, rfl, rfl, _, rfl, ?_⟩
              have eF : formB nm ds = if nm = "is" then decide (ds.length = 1) && (ds.getD 0 .o).isKd else if 1 + ds.length = (if nm ∈ PL then 2 else 1) + m then !decide (nm ∈ PL) || (ds.getD 0 .o).isCnt else false := by unfold formB; rw [hm]
              by_cases c : nm = "is"
              · rw [if_pos c] at eF
                rw [eF] at k k0
                rw [decide_eq_true (show V.str nm = V.str "is" by rw [c])]
                refine iteT ⟨_, rfl, p, _, rfl, .inr (SqT.of e), rfl, _, rfl, ?_⟩
                by_cases c2 : ds.length = 1
                · rw [decide_eq_true (show V.int ((V.str nm :: xs).length : Int) = V.int 2 by rw [List.length_cons, hl, c2]; rfl)]
                  rw [decide_eq_true c2, Bool.true_and] at k
                  cases h with
                  | nil => simp at c2
                  | @cons y xs b ds h1 h =>
                    refine ⟨_, rfl, p, _, _, _, rfl, rfl, SqT.of e, atI_nat (j := 1) rfl, y, b, rfl, h1, ?_, ?_, k⟩
                    · simp only [D.dep, depAll] at hdep
                      omega
                    · simp only [D.size, sizeAll] at hz
                      omega
                · rw [decide_eq_false (show ¬ V.int ((V.str nm :: xs).length : Int) = V.int 2 from fun z => c2 (by injection z with z; simp only [List.length_cons] at z; omega))]
                  rw [decide_eq_false c2, Bool.false_and] at k0
                  exact k0
              · rw [if_neg c] at eF
                rw [eF] at k k0
                rw [decide_eq_false (show ¬ V.str nm = V.str "is" from fun z => c (by injection z))]
                by_cases c2 : 1 + ds.length = (if nm ∈ PL then 2 else 1) + m
                · rw [if_pos c2] at k k0
                  refine iteF ⟨_, rfl, p, _, rfl, .inr (SqT.of e), _, rfl, nm, rfl, _, rfl, dd, nm, .int (m : Nat), rfl, rfl, ⟨es, n, u0, KD.at_, KD.lit, hq1.trans (by rw [hu]), hru⟩, _, _, rfl, rfl, rfl, false, congrArg (fun b => V.bl (!b)) (decide_eq_true (congrArg V.int (by rw [List.length_cons, hl]; omega))), ?_⟩
                  refine iteF ⟨_, rfl, sa, _, rfl, .inr (sqT_any hs), rfl, flat_map PL, _, rfl, ?_⟩
                  rw [if_pos rfl, inV_str]
                  by_cases c3 : nm ∈ PL
                  · rw [decide_eq_true c3] at k k0 ⊢
                    cases h with
                    | nil =>
                      exfalso
                      rw [if_pos c3] at c2
                      simp only [List.length_nil] at c2
                      omega
                    | @cons y xs b ds h1 h =>
                      exact ⟨_, rfl, p, _, _, _, rfl, rfl, SqT.of e, atI_nat (j := 1) rfl, y, b, rfl, h1, k0⟩
                  · rw [decide_eq_false c3] at k k0 ⊢
                    exact k0
                · rw [if_neg c2] at k k0
                  refine iteF ⟨_, rfl, p, _, rfl, .inr (SqT.of e), _, rfl, nm, rfl, _, rfl, dd, nm, .int (m : Nat), rfl, rfl, ⟨es, n, u0, KD.at_, KD.lit, hq1.trans (by rw [hu]), hru⟩, _, _, rfl, rfl, rfl, true, congrArg (fun b => V.bl (!b)) (decide_eq_false fun z => c2 (by injection z with z; simp only [List.length_cons] at z; omega)), ?_⟩
                  exact iteT k0
end
end S4

namespace S4
open PySem PySem.Spec PyProof.Rows L2 KT
open PySem.W (Frag)
theorem allK_eq (u : D) : u.allK = (u.formed && u.parts.all D.allK) := by
  rw [Bool.eq_iff_iff, Bool.and_eq_true, List.all_eq_true]
  constructor
  · intro h
    obtain ⟨f, g⟩ := allK_fm h
    exact ⟨f.formed, g⟩
  · rintro ⟨h, g⟩
    exact fm_allK (fm_of h) g
theorem parts_dep {u : D} (f : Fm u) {n : Nat} (h : u.dep ≤ n) : ∀ p ∈ u.parts, p.dep ≤ n := by
  have e1 : ("over made" : Str) ≠ "is" := by decide
  have e2 : ("under made" : Str) ≠ "is" := by decide
  have e3 : ("then made" : Str) ≠ "then used" := by decide
  cases f <;> simp [D.parts, D.dep, depAll, e1, e2, e3] at h ⊢ <;> omega
theorem all_rev (p : D → Bool) (l : List D) : l.reverse.all p = l.all p := List.all_reverse
section
variable {P : Program} {w : World} {K : Frag} {mg : Str → Option Value} {base : Heap}
def spAllKnots : Sp := fun vs H Q _ => ∃ v d, vs = [v] ∧ DAt H v d ∧ d.dep ≤ 60 ∧ d.size ≤ 1000000 ∧ ∀ H', Same H H' → Q (.bl d.allK) H'
theorem ok_allKnots {f fh fp : Addr} {fd fdh fdp : FuncData} (T : Top K mg "_are_all_knots" sAreAllKnots pAreAllKnots f fd) (TH : Top K mg "_has_form" sHasForm pHasForm fh fdh) (TP : Top K mg "parts_of_knot" sPartsOfKnot pPartsOfKnot fp fdp)
    (GH : FnOk P w K mg base CX0 3 fh fdh pHasForm spHasForm) (GP : FnOk P w K mg base CX0 2 fp fdp pPartsOfKnot spPartsK) : FnOk P w K mg base CX0 4 f fd pAreAllKnots spAllKnots := by
  refine T.F.ok scAreAllKnots (fun vs H Q E h => ?_) (fun cdv A outer s H vs Q E hr h => ?_)
  · obtain ⟨_, _, rfl, _⟩ := h
    rfl
  · obtain ⟨v, d, rfl, hd, hdep, hz, k⟩ := h
    have hr2 : Room 2 _ := hr.mono (by decide)
    refine ⟨_, (pss_cons (ps_set (i := 1) scAreAllKnots.nd rfl (Or.inl rfl) (pe_lst (pa_cons (pv 0) pa_nil)))
      (pss_cons (ps_while PassesOwn.never (pt_truth (pv 1) (by intro _; rfl))
        (pss_cons (ps_set (i := 2) scAreAllKnots.nd rfl (Or.inl rfl) (pe_bm0 PySem.F.plainAttrs_list PySem.F.slot_list_pop PySem.F.type_list_pop mt_pop (pv 1)))
      (pss_cons (ps_if (pt_not (pt_val (pe_call GH hr rfl TH.g TH.F.kp TH.b .nil pass0 (pa_cons (pv 2) pa_nil)))) (pss_one (ps_ret pe_bl)) pss_nil)
      (pss_one (ps_expr (pe_bm PySem.F.plainAttrs_list PySem.F.slot_list_extend PySem.F.type_list_extend KT.mt_extT (pv 1) (pa_cons (pe_call GP hr2 rfl TP.g TP.F.kp TP.b .nil pass0 (pa_cons (pv 2) pa_nil)) pa_nil)))))))
      (pss_one (ps_ret pe_bl)))), ?_⟩
    refine ⟨v, rfl, by show 1 ≤ sizeLine; rw [sizeLine_eq]; omega, fun W hW => ?_⟩
    refine ⟨fun m σ H' => ∃ (vs : List V) (ds : List D) (v2 : Option V), σ = [some v, some (.ref W), v2] ∧ H' W = some (.lst vs.reverse) ∧ DsAt H' vs ds ∧ sizeAll ds = m ∧ m ≤ 1000000 ∧ (∀ u ∈ ds, u.dep ≤ 60) ∧ d.allK = ds.all D.allK ∧ Same H H',
      ⟨d.size, [v], [d], none, rfl, upd_same, .cons (hd.mono (TK.upd_new hW)) .nil, by simp [sizeAll], hz, fun u hu => by rw [List.mem_singleton.mp hu]; exact hdep, by simp, same_upd hW⟩, ?_⟩
    rintro m σ H1 ⟨vs, ds, v2, rfl, hL, hT, rfl, hm, hdp, hall, hs⟩
    refine ⟨_, rfl, _, .inl ⟨_, SqL.of hL, rfl⟩, ?_⟩
    cases hT with
    | nil =>
      have q := k H1 hs
      rw [hall] at q
      exact iteF q
    | @cons y vs u ds h1 h2 =>
      have el : (y :: vs).reverse = vs.reverse ++ [y] := List.reverse_cons
      have c : (!(y :: vs).reverse.isEmpty) = true := by rw [el]; simp
      rw [c]
      have hm' : u.size + sizeAll ds ≤ 1000000 := hm
      have up := u.size_pos
      refine iteT ⟨fun σ' H' => ∃ m' < sizeAll (u :: ds), ∃ (vs : List V) (ds : List D) (v2 : Option V), σ' = [some v, some (.ref W), v2] ∧ H' W = some (.lst vs.reverse) ∧ DsAt H' vs ds ∧ sizeAll ds = m' ∧ m' ≤ 1000000 ∧ (∀ u ∈ ds, u.dep ≤ 60) ∧ d.allK = ds.all D.allK ∧ Same H H', fun σ' H' q => q, ?_⟩
      refine ⟨_, rfl, .inl ⟨rfl, _, SqL.of hL⟩, W, _, y, rfl, rfl, hL, by rw [el]; simp, ?_⟩
      have ed : (y :: vs).reverse.dropLast = vs.reverse := by rw [el]; simp
      rw [ed]
      have tk : TK H1 (upd H1 W (.lst vs.reverse)) := TK.upd_lst hL
      have hs' : Same H (upd H1 W (.lst vs.reverse)) := same_over hs hW
      have h1' := h1.mono tk
      rw [List.all_cons, allK_eq u] at hall
      refine ⟨y, rfl, y, u, rfl, h1', hdp u List.mem_cons_self, by omega, fun H2 s2 => ⟨_, rfl, ?_⟩⟩
      cases fm : u.formed with
      | false =>
        rw [fm, Bool.false_and, Bool.false_and] at hall
        have q := k H2 (hs'.trans s2)
        rw [hall] at q
        exact iteT q
      | true =>
        rw [fm, Bool.true_and] at hall
        have f := fm_of fm
        obtain ⟨ps, pl⟩ := f.psize
        have h1'' := h1'.mono (TK.of_same s2)
        have eW2 := s2 _ _ (upd_same (H := H1) (a := W) (o := .lst vs.reverse))
        refine iteF ⟨_, rfl, .inl ⟨rfl, _, SqL.of eW2⟩, y, rfl, y, u, rfl, h1'', f, fun p us hp hus => ?_⟩
        have np : W ≠ p := ne_of_none eW2 hp
        have lu := hus.length
        have l1 := h2.length
        have l2 := len_size ds
        refine ⟨W, p, _, us, rfl, rfl, by rw [upd_ne np]; exact eW2, SqT.of upd_same, by rw [List.length_reverse, sizeLine_eq]; omega, ?_⟩
        have tz : TK H2 (upd (upd H2 p (.tup us)) W (.lst (vs.reverse ++ us))) := (TK.upd_new hp).trans (TK.upd_lst (by rw [upd_ne np]; exact eW2))
        refine ⟨sizeAll u.parts + sizeAll ds, by show _ < u.size + sizeAll ds; omega, us.reverse ++ vs, u.parts.reverse ++ ds, _, rfl, by rw [upd_same]; simp, ?_, by rw [sizeAll_app, sizeAll_rev], by omega, ?_, ?_, same_over ((hs'.trans s2).trans (same_upd hp)) hW⟩
        · exact ((hus.mono tz).rev).append (h2.mono ((tk.trans (TK.of_same s2)).trans tz))
        · intro z hz
          rcases List.mem_append.mp hz with hz | hz
          · exact parts_dep f (hdp u List.mem_cons_self) z (List.mem_reverse.mp hz)
          · exact hdp z (List.mem_cons_of_mem _ hz)
        · rw [hall, List.all_append, all_rev]
end
end S4

namespace S4
open PySem PySem.Spec PyProof.Rows L2 LamX KT
open PySem.W (Frag)
theorem nodes_len : ∀ (n : Nat) (u : D), u.size ≤ n → u.allK = true → u.nodes.length ≤ u.size ∧ ∀ x ∈ u.nodes, x.allK = true := by
  intro n
  induction n with
  | zero => intro u h; have := u.size_pos; omega
  | succ n ih =>
    intro u h ha
    obtain ⟨f, hp⟩ := allK_fm ha
    obtain ⟨ps, _⟩ := f.psize
    rw [f.nodes]
    have key : ∀ l : List D, sizeAll l ≤ n → (∀ p ∈ l, p.allK = true) → (nodesAll l).length ≤ sizeAll l ∧ ∀ x ∈ nodesAll l, x.allK = true := by
      intro l
      induction l with
      | nil => intro _ _; exact ⟨Nat.le_refl _, fun x hx => by cases hx⟩
      | cons d r ihr =>
        intro hl hk
        simp only [sizeAll] at hl
        obtain ⟨a1, a2⟩ := ih d (by omega) (hk d List.mem_cons_self)
        obtain ⟨b1, b2⟩ := ihr (by omega) fun p hp => hk p (List.mem_cons_of_mem _ hp)
        refine ⟨by simp only [nodesAll, List.length_append, sizeAll]; omega, fun x hx => ?_⟩
        rcases List.mem_append.mp hx with hx | hx
        · exact a2 x hx
        · exact b2 x hx
    obtain ⟨a1, a2⟩ := key u.parts.reverse (by rw [sizeAll_rev]; omega) fun p hp' => hp p (List.mem_reverse.mp hp')
    rw [sizeAll_rev] at a1
    refine ⟨by rw [List.length_cons]; omega, fun x hx => ?_⟩
    rcases List.mem_cons.mp hx with e | hx
    · rw [e]; exact ha
    · exact a2 x hx
section
variable {P : Program} {w : World} {K : Frag} {mg : Str → Option Value} {base : Heap}
def spNodesK (fp : Addr) : Sp := fun vs H Q _ => ∃ v d, vs = [v, .ref fp] ∧ DAt H v d ∧ d.allK = true ∧ d.size ≤ 1000000 ∧
  ∀ (L : Addr) (us : List V) (H' : Hp), Same H H' → H L = none → H' L = some (.lst us) → DsAt H' us d.nodes → Q (.ref L) H'
theorem ok_nodesK {f fp : Addr} {fd fdp : FuncData} (T : Top K mg "nodes_in" sNodesIn pNodesIn f fd) (TP : Top K mg "parts_of_knot" sPartsOfKnot pPartsOfKnot fp fdp) (GP : FnOk P w K mg base CX0 2 fp fdp pPartsOfKnot spPartsK) : FnOk P w K mg base CX0 3 f fd pNodesIn (spNodesK fp) := by
  refine T.F.ok scNodesIn (fun vs H Q E h => ?_) (fun cdv A outer s H vs Q E hr h => ?_)
  · obtain ⟨_, _, rfl, _⟩ := h
    rfl
  · obtain ⟨v, t, rfl, ht, hk, hz, k⟩ := h
    refine ⟨_, (pss_cons (ps_set (i := 2) scNodesIn.nd rfl (Or.inl rfl) (pe_lst (pa_cons (pv 0) pa_nil)))
      (pss_cons (ps_set (i := 3) scNodesIn.nd rfl (Or.inl rfl) (pe_lst pa_nil))
      (pss_cons (ps_while PassesOwn.never (pt_truth (pv 2) (by intro _; rfl))
        (pss_cons (ps_set (i := 4) scNodesIn.nd rfl (Or.inl rfl) (pe_bm0 PySem.F.plainAttrs_list PySem.F.slot_list_pop PySem.F.type_list_pop mt_pop (pv 2)))
      (pss_cons (ps_expr (pe_bm PySem.F.plainAttrs_list PySem.F.slot_list_append PySem.F.type_list_append mt_append (pv 3) (pa_cons (pv 4) pa_nil)))
      (pss_one (ps_expr (pe_bm PySem.F.plainAttrs_list PySem.F.slot_list_extend PySem.F.type_list_extend KT.mt_extT (pv 2) (pa_cons (pe_callL (i := 1) (f := fp) GP hr rfl (.inl rfl) TP.F.kp TP.b .nil pass0 (pa_cons (pv 4) pa_nil)) pa_nil)))))))
      (pss_one (ps_ret (pv 3)))))), ?_⟩
    refine ⟨v, rfl, by show 1 ≤ sizeLine; rw [sizeLine_eq]; omega, fun W hW => ⟨by show 0 ≤ sizeLine; exact Nat.zero_le _, fun L hL => ?_⟩⟩
    have nWL : W ≠ L := ne_of_none upd_same hL
    have nL : H L = none := by
      rw [upd_ne nWL.symm] at hL
      exact hL
    have sh : Same H (upd (upd H W (.lst [v])) L (.lst [])) := same_over (same_over (Same.refl H) hW) nL
    obtain ⟨hnl, _⟩ := nodes_len t.size t (Nat.le_refl _) hk
    refine ⟨fun m σ H' => ∃ (vs : List V) (ts : List D) (us : List V) (rs : List D) (v4 : Option V), σ = [some v, some (.ref fp), some (.ref W), some (.ref L), v4] ∧ H' W = some (.lst vs.reverse) ∧ H' L = some (.lst us) ∧ DsAt H' vs ts ∧ DsAt H' us rs ∧ rs ++ nodesAll ts = t.nodes ∧ sizeAll ts = m ∧ m ≤ 1000000 ∧ (∀ u ∈ ts, u.allK = true) ∧ Same H H',
      ⟨t.size, [v], [t], [], [], none, rfl, by rw [upd_ne nWL, upd_same]; rfl, upd_same, .cons (ht.mono (TK.of_same sh)) .nil, .nil, by simp [nodesAll], by simp [sizeAll], hz, fun u hu => by rw [List.mem_singleton.mp hu]; exact hk, sh⟩, ?_⟩
    rintro m σ H1 ⟨vs, ts, us, rs, v4, rfl, eW, eL, hT, hR, hn, rfl, hm, hks, hs⟩
    have hlen := congrArg List.length hn
    rw [List.length_append] at hlen
    have lr := hR.length
    refine ⟨_, rfl, _, .inl ⟨_, SqL.of eW, rfl⟩, ?_⟩
    cases hT with
    | nil =>
      refine iteF ⟨_, rfl, k L us H1 hs nL eL ?_⟩
      rw [← hn]
      simpa [nodesAll] using hR
    | @cons y vs u ts h1 h2 =>
      have el : (y :: vs).reverse = vs.reverse ++ [y] := List.reverse_cons
      have c : (!(y :: vs).reverse.isEmpty) = true := by rw [el]; simp
      rw [c]
      have hm' : u.size + sizeAll ts ≤ 1000000 := hm
      obtain ⟨fu, hup⟩ := allK_fm (hks u List.mem_cons_self)
      obtain ⟨ps, pl⟩ := fu.psize
      refine iteT ⟨fun σ' H' => ∃ m' < sizeAll (u :: ts), ∃ (vs : List V) (ts : List D) (us : List V) (rs : List D) (v4 : Option V), σ' = [some v, some (.ref fp), some (.ref W), some (.ref L), v4] ∧ H' W = some (.lst vs.reverse) ∧ H' L = some (.lst us) ∧ DsAt H' vs ts ∧ DsAt H' us rs ∧ rs ++ nodesAll ts = t.nodes ∧ sizeAll ts = m' ∧ m' ≤ 1000000 ∧ (∀ u ∈ ts, u.allK = true) ∧ Same H H', fun σ' H' q => q, ?_⟩
      refine ⟨_, rfl, .inl ⟨rfl, _, SqL.of eW⟩, W, _, y, rfl, rfl, eW, by rw [el]; simp, ?_⟩
      have ed : (y :: vs).reverse.dropLast = vs.reverse := by rw [el]; simp
      rw [ed]
      have tk : TK H1 (upd H1 W (.lst vs.reverse)) := TK.upd_lst eW
      have eL2 : upd H1 W (.lst vs.reverse) L = some (.lst us) := by rw [upd_ne nWL.symm]; exact eL
      refine ⟨_, rfl, .inl ⟨rfl, _, SqL.of eL2⟩, y, rfl, L, us, y, rfl, rfl, eL2, by rw [sizeLine_eq]; omega, ?_⟩
      have tk2 : TK H1 (upd (upd H1 W (.lst vs.reverse)) L (.lst (us ++ [y]))) := tk.trans (TK.upd_lst eL2)
      have eW2 : upd (upd H1 W (.lst vs.reverse)) L (.lst (us ++ [y])) W = some (.lst vs.reverse) := by rw [upd_ne nWL, upd_same]
      have hs2 : Same H (upd (upd H1 W (.lst vs.reverse)) L (.lst (us ++ [y]))) := same_over (same_over hs hW) nL
      refine ⟨_, rfl, .inl ⟨rfl, _, SqL.of eW2⟩, rfl, y, rfl, y, u, rfl, h1.mono tk2, fu, fun p zs hp hzs => ?_⟩
      have np : W ≠ p := ne_of_none eW2 hp
      have npL : L ≠ p := ne_of_none upd_same hp
      have lz := hzs.length
      have l2 := h2.length
      have l3 := len_size ts
      have up := u.size_pos
      refine ⟨W, p, _, zs, rfl, rfl, by rw [upd_ne np]; exact eW2, SqT.of upd_same, by rw [List.length_reverse, sizeLine_eq]; omega, ?_⟩
      have tz := (TK.upd_new (o := .tup zs) hp).trans (TK.upd_lst (ys := vs.reverse ++ zs) (by rw [upd_ne np]; exact eW2))
      have tk3 := tk2.trans tz
      have hs3 := same_over (o := .lst (vs.reverse ++ zs)) (hs2.trans (same_upd (o := .tup zs) hp)) hW
      have eL4 : upd (upd (upd (upd H1 W (.lst vs.reverse)) L (.lst (us ++ [y]))) p (.tup zs)) W (.lst (vs.reverse ++ zs)) L = some (.lst (us ++ [y])) := by rw [upd_ne nWL.symm, upd_ne npL, upd_same]
      refine ⟨sizeAll u.parts + sizeAll ts, by show _ < u.size + sizeAll ts; omega, zs.reverse ++ vs, u.parts.reverse ++ ts, us ++ [y], rs ++ [u], _, rfl, by rw [upd_same]; simp, eL4, ((hzs.mono tz).rev).append (h2.mono tk3), (hR.mono tk3).append (.cons (h1.mono tk3) .nil), ?_, by rw [sizeAll_app, sizeAll_rev], by omega, ?_, hs3⟩
      · rw [← hn, nodesAll_app]
        show _ = rs ++ (u.nodes ++ nodesAll ts)
        rw [fu.nodes]
        simp
      · intro z hz'
        rcases List.mem_append.mp hz' with hz' | hz'
        · exact hup z (List.mem_reverse.mp hz')
        · exact hks z (List.mem_cons_of_mem _ hz')
end
end S4

namespace S4
open PySem PySem.Spec PyProof.Rows L2 LamX KT
open PySem.W (Frag)
inductive TlOf : D → Told → Prop
  | is {x : D} {k : Ty} : x.ty = some k → TlOf (.t [.s "is", x]) ([k], k)
  | om {x : D} {rx r : Told} : x.tl = some rx → madeO rx = some r → TlOf (.t [.s "over made", x]) r
  | um {x : D} {rx r : Told} : x.tl = some rx → madeU rx = some r → TlOf (.t [.s "under made", x]) r
  | tm {x y : D} {rx ry : Told} : x.tl = some rx → y.tl = some ry → TlOf (.t [.s "then made", x, y]) (thenM rx ry)
  | tu {p : Int} {y : D} {ry r : Told} : y.tl = some ry → thenU p ry = some r → TlOf (.t [.s "then used", .i p, y]) r
  | us {nm : Str} {p : Int} {x y : D} {rx ry r : Told} : placed nm = true → x.tl = some rx → y.tl = some ry → usedAt nm p rx ry = some r → TlOf (.t [.s nm, .i p, x, y]) r
theorem both_inv {f : Told → Told → Option Told} {a b : Option Told} {r : Told} (h : both f a b = some r) : ∃ x y, a = some x ∧ b = some y ∧ f x y = some r := by
  cases a with
  | none => cases h
  | some x => cases b with
    | none => cases h
    | some y => exact ⟨x, y, rfl, rfl, h⟩
theorem tl_inv {u : D} {r : Told} (h : u.tl = some r) : TlOf u r := by
  cases u with
  | s z => simp only [D.tl] at h; cases h
  | i n => simp only [D.tl] at h; cases h
  | o => simp only [D.tl] at h; cases h
  | t l =>
    simp only [D.tl] at h
    unfold tellOf at h
    split at h
    · rename_i nm x e0 rx e
      simp only [tlAll] at e
      injection e with _ e
      injection e with e1 _
      subst e1
      split at h
      · rename_i c
        subst c
        obtain ⟨k, h1, h2⟩ := Option.map_eq_some_iff.mp h
        rw [← h2]
        exact .is h1
      · split at h
        · rename_i c
          subst c
          obtain ⟨rx, h1, h2⟩ := Option.bind_eq_some_iff.mp h
          exact .om h1 h2
        · split at h
          · rename_i c
            subst c
            obtain ⟨rx, h1, h2⟩ := Option.bind_eq_some_iff.mp h
            exact .um h1 h2
          · cases h
    · rename_i nm x y e0 rx ry e
      simp only [tlAll] at e
      injection e with _ e
      injection e with e1 e
      injection e with e2 _
      subst e1
      subst e2
      split at h
      · rename_i c
        subst c
        obtain ⟨a, b, h1, h2, h3⟩ := both_inv h
        cases h3
        exact .tm h1 h2
      · split at h
        · rename_i c
          subst c
          split at h
          · obtain ⟨ry, h1, h2⟩ := Option.bind_eq_some_iff.mp h
            exact .tu h1 h2
          · cases h
        · cases h
    · rename_i nm p x y e0 e9 rx ry e
      simp only [tlAll] at e
      injection e with _ e
      injection e with _ e
      injection e with e1 e
      injection e with e2 _
      subst e1
      subst e2
      split at h
      · rename_i c
        obtain ⟨a, b, h1, h2, h3⟩ := both_inv h
        exact .us c h1 h2 h3
      · cases h
    · cases h
theorem tl_of {u : D} {r : Told} (h : TlOf u r) : u.tl = some r := by
  cases h with
  | is h => simp [D.tl, tellOf, tlAll, h]
  | om h1 h2 => simp [D.tl, tellOf, tlAll, h1, h2]
  | um h1 h2 => simp [D.tl, tellOf, tlAll, h1, h2]
  | tm h1 h2 => simp [D.tl, tellOf, tlAll, h1, h2, both]
  | tu h1 h2 => simp [D.tl, tellOf, tlAll, h1, h2]
  | us c h1 h2 h3 => simp [D.tl, tellOf, tlAll, h1, h2, both, c, h3]
theorem usedAt_p {nm : Str} {p : Int} {x y r : Told} (h : usedAt nm p x y = some r) : 0 ≤ p ∧ ∃ k, y.1[p.toNat]? = some k := by
  unfold usedAt at h
  split at h
  · rename_i c
    split at h
    · cases h
    · rename_i k e
      exact ⟨c, k, e⟩
  · cases h
theorem thenU_p {p : Int} {y r : Told} (h : thenU p y = some r) : 0 ≤ p := by
  unfold thenU at h
  split at h
  · assumption
  · cases h
/-- what tells something has a knot's form all through -/
theorem tl_allK : ∀ (n : Nat) (u : D) (r : Told), u.size ≤ n → u.tl = some r → u.allK = true := by
  intro n
  induction n with
  | zero => intro u r h; have := u.size_pos; omega
  | succ n ih =>
    intro u r hz h
    cases tl_inv h with
    | is hk => exact fm_allK (.is (by unfold D.isKd; rw [hk]; rfl)) fun p hp => by cases hp
    | om h1 h2 =>
      simp only [D.size, sizeAll] at hz
      exact fm_allK .om fun p hp => by rw [List.mem_singleton.mp hp]; exact ih _ _ (by omega) h1
    | um h1 h2 =>
      simp only [D.size, sizeAll] at hz
      exact fm_allK .um fun p hp => by rw [List.mem_singleton.mp hp]; exact ih _ _ (by omega) h1
    | tm h1 h2 =>
      simp only [D.size, sizeAll] at hz
      refine fm_allK .tm fun p hp => ?_
      rcases List.mem_cons.mp hp with rfl | hp
      · exact ih _ _ (by omega) h1
      · rw [List.mem_singleton.mp hp]; exact ih _ _ (by omega) h2
    | tu h1 h2 =>
      simp only [D.size, sizeAll] at hz
      exact fm_allK (.tu (thenU_p h2)) fun p hp => by rw [List.mem_singleton.mp hp]; exact ih _ _ (by omega) h1
    | @us nm p x y rx ry r c h1 h2 h3 =>
      simp only [D.size, sizeAll] at hz
      have hp := (usedAt_p h3).1
      have f : Fm (.t [.s nm, .i p, x, y]) := by
        unfold placed at c
        rw [Bool.or_eq_true, Bool.or_eq_true, decide_eq_true_eq, decide_eq_true_eq, decide_eq_true_eq] at c
        rcases c with (e | e) | e
        · subst e; exact .ou hp
        · subst e; exact .uu hp
        · subst e; exact .ct hp
      refine fm_allK f fun q hq => ?_
      rcases List.mem_cons.mp hq with rfl | hq
      · exact ih _ _ (by omega) h1
      · rw [List.mem_singleton.mp hq]; exact ih _ _ (by omega) h2
/-- what can be handled at once -/
def Small (r : Told) : Prop := r.1.length ≤ 4000 ∧ (∀ t ∈ r.1, t.d.dep ≤ 60) ∧ r.2.d.dep ≤ 60
theorem dep_n (g : Sg) (a b : Ty) : (Ty.n g a b).d.dep = max a.d.dep b.d.dep + 1 := by
  simp only [Ty.d, D.dep, depAll]
  omega
/-- bounds of what is told -/
def Bd (n m : Nat) (r : Told) : Prop := r.1.length ≤ n ∧ (∀ t ∈ r.1, t.d.dep ≤ m) ∧ r.2.d.dep ≤ m
theorem Bd.madeO {n m : Nat} {x r : Told} (h : Bd n m x) (e : madeO x = some r) : Bd n (m + 1) r := by
  obtain ⟨row, goal⟩ := x
  obtain ⟨h1, h2, h3⟩ := h
  simp only [S4.madeO] at e
  split at e
  · cases e
  · rename_i c
    cases e
    refine ⟨?_, fun t ht => ?_, ?_⟩
    · show row.dropLast.length ≤ n
      rw [List.length_dropLast]
      have : row.length ≤ n := h1
      omega
    · have := h2 t ((List.dropLast_sublist row).mem ht)
      omega
    · show (Ty.n .ov goal _).d.dep ≤ _
      rw [dep_n]
      have hm : row.getLastD (.w "") ∈ row := by
        cases row with
        | nil => simp at c
        | cons a r => rw [List.getLastD_cons]; exact List.getLastD_mem_cons
      have q1 := h2 _ hm
      have q2 : goal.d.dep ≤ m := h3
      omega
theorem Bd.madeU {n m : Nat} {x r : Told} (h : Bd n m x) (e : madeU x = some r) : Bd n (m + 1) r := by
  obtain ⟨row, goal⟩ := x
  obtain ⟨h1, h2, h3⟩ := h
  unfold S4.madeU at e
  split at e
  · rename_i a b r' g' he
    cases he
    cases e
    refine ⟨?_, fun t ht => ?_, ?_⟩
    · show (b :: r').length ≤ n
      have : (a :: b :: r').length ≤ n := h1
      simp only [List.length_cons] at this ⊢
      omega
    · have := h2 t (List.mem_cons_of_mem _ ht)
      omega
    · show (Ty.n .un a goal).d.dep ≤ _
      rw [dep_n]
      have q1 := h2 a List.mem_cons_self
      have q2 : goal.d.dep ≤ m := h3
      omega
  · cases e
theorem Bd.thenM {n n' m : Nat} {x y : Told} (h : Bd n m x) (h' : Bd n' m y) : Bd (n + n') (m + 1) (thenM x y) := by
  refine ⟨?_, fun t ht => ?_, ?_⟩
  · show (x.1 ++ y.1).length ≤ _
    rw [List.length_append]
    have := h.1
    have := h'.1
    omega
  · rcases List.mem_append.mp ht with q | q
    · have := h.2.1 t q; omega
    · have := h'.2.1 t q; omega
  · show (Ty.n .th x.2 y.2).d.dep ≤ _
    rw [dep_n]
    have := h.2.2
    have := h'.2.2
    omega
theorem Bd.thenU {n m : Nat} {p : Int} {y r : Told} (h : Bd n m y) (e : thenU p y = some r) : Bd n (m + 1) r := by
  unfold S4.thenU at e
  split at e
  · split at e
    · rename_i a b ha hb
      cases e
      obtain ⟨la, _⟩ := List.getElem?_eq_some_iff.mp hb
      refine ⟨?_, fun t ht => ?_, by have := h.2.2; show y.2.d.dep ≤ _; omega⟩
      · show (y.1.take p.toNat ++ [Ty.n .th a b] ++ y.1.drop (p.toNat + 2)).length ≤ n
        rw [List.length_append, List.length_append, List.length_take, List.length_drop, List.length_singleton]
        have := h.1
        omega
      · have ht : t ∈ y.1.take p.toNat ++ [Ty.n .th a b] ++ y.1.drop (p.toNat + 2) := ht
        rcases List.mem_append.mp ht with q | q
        · rcases List.mem_append.mp q with q | q
          · have := h.2.1 t (List.mem_of_mem_take q); omega
          · rw [List.mem_singleton.mp q, dep_n]
            have q1 := h.2.1 a (List.mem_of_getElem? ha)
            have q2 := h.2.1 b (List.mem_of_getElem? hb)
            omega
        · have := h.2.1 t (List.mem_of_mem_drop q); omega
    · cases e
  · cases e
theorem Bd.usedAt {n n' m : Nat} {nm : Str} {p : Int} {x y r : Told} (h : Bd n m x) (h' : Bd n' m y) (e : usedAt nm p x y = some r) : Bd (n + n') (m + 1) r := by
  unfold S4.usedAt at e
  split at e
  · split at e
    · cases e
    · rename_i k hk
      obtain ⟨lk, _⟩ := List.getElem?_eq_some_iff.mp hk
      have dk := h'.2.1 k (List.mem_of_getElem? hk)
      have l1 := h.1
      have l2 := h'.1
      have g2 := h'.2.2
      have gx := h.2.2
      have tk : ∀ t ∈ y.1.take p.toNat, t.d.dep ≤ m := fun t q => h'.2.1 t (List.mem_of_mem_take q)
      have dr : ∀ t ∈ y.1.drop (p.toNat + 1), t.d.dep ≤ m := fun t q => h'.2.1 t (List.mem_of_mem_drop q)
      split at e
      · cases e
        refine ⟨?_, fun t ht => ?_, by show y.2.d.dep ≤ _; omega⟩
        · show (y.1.take p.toNat ++ [Ty.n .ov k x.2] ++ x.1 ++ y.1.drop (p.toNat + 1)).length ≤ _
          simp only [List.length_append, List.length_take, List.length_drop, List.length_singleton]
          omega
        · have ht : t ∈ y.1.take p.toNat ++ [Ty.n .ov k x.2] ++ x.1 ++ y.1.drop (p.toNat + 1) := ht
          simp only [List.mem_append, List.mem_singleton] at ht
          rcases ht with ((q | q) | q) | q
          · have := tk t q; omega
          · rw [q, dep_n]; omega
          · have := h.2.1 t q; omega
          · have := dr t q; omega
      · split at e
        · cases e
          refine ⟨?_, fun t ht => ?_, by show y.2.d.dep ≤ _; omega⟩
          · show (y.1.take p.toNat ++ x.1 ++ [Ty.n .un x.2 k] ++ y.1.drop (p.toNat + 1)).length ≤ _
            simp only [List.length_append, List.length_take, List.length_drop, List.length_singleton]
            omega
          · have ht : t ∈ y.1.take p.toNat ++ x.1 ++ [Ty.n .un x.2 k] ++ y.1.drop (p.toNat + 1) := ht
            simp only [List.mem_append, List.mem_singleton] at ht
            rcases ht with ((q | q) | q) | q
            · have := tk t q; omega
            · have := h.2.1 t q; omega
            · rw [q, dep_n]; omega
            · have := dr t q; omega
        · split at e
          · cases e
            refine ⟨?_, fun t ht => ?_, by show y.2.d.dep ≤ _; omega⟩
            · show (y.1.take p.toNat ++ x.1 ++ y.1.drop (p.toNat + 1)).length ≤ _
              simp only [List.length_append, List.length_take, List.length_drop]
              omega
            · have ht : t ∈ y.1.take p.toNat ++ x.1 ++ y.1.drop (p.toNat + 1) := ht
              simp only [List.mem_append] at ht
              rcases ht with (q | q) | q
              · have := tk t q; omega
              · have := h.2.1 t q; omega
              · have := dr t q; omega
          · cases e
  · cases e
mutual
/-- a datum that is a type is that type's -/
theorem D.ty_d : ∀ {d : D} {t : Ty}, d.ty = some t → t.d = d
  | .s z, t, h => by
    simp only [D.ty] at h
    split at h
    · cases h; rfl
    · cases h
  | .i _, t, h => by simp only [D.ty] at h; cases h
  | .o, t, h => by simp only [D.ty] at h; cases h
  | .t l, t, h => by
    simp only [D.ty] at h
    obtain ⟨g, x, y, a, b, rfl, ⟨o, hr⟩, rfl⟩ := mkTy_inv h
    simp only [tyAll] at hr
    injection hr with _ hr
    injection hr with e1 hr
    injection hr with e2 _
    have q := tyAll_d [D.s g.str, x, y]
    have q1 := q 1 x a rfl e1
    have q2 := q 2 y b rfl e2
    simp only [Ty.d, q1, q2]
theorem tyAll_d : ∀ (ds : List D) (j : Nat) (d : D) (t : Ty), ds[j]? = some d → d.ty = some t → t.d = d
  | [], j, d, t, e, _ => by simp at e
  | a :: r, 0, d, t, e1, e2 => by
    obtain rfl := Option.some.inj (show some a = some d from e1)
    exact D.ty_d e2
  | a :: r, j + 1, d, t, e1, e2 => tyAll_d r j d t (by simpa using e1) e2
end
theorem Bd.le {n n' m m' : Nat} {r : Told} (h : Bd n m r) (a : n ≤ n') (b : m ≤ m') : Bd n' m' r := ⟨by have := h.1; omega, fun t ht => by have := h.2.1 t ht; omega, by have := h.2.2; omega⟩
theorem tl_bd : ∀ (n : Nat) (u : D) (r : Told), u.size ≤ n → u.tl = some r → Bd u.size u.dep r := by
  intro n
  induction n with
  | zero => intro u r h; have := u.size_pos; omega
  | succ n ih =>
    intro u r hz h
    cases tl_inv h with
    | @is x k hk =>
      have e := D.ty_d hk
      have l : k.d.dep ≤ (D.t [.s "is", x]).dep := by
        rw [e]
        simp only [D.dep, depAll]
        omega
      refine ⟨by show 1 ≤ _; exact D.size_pos _, fun t ht => ?_, l⟩
      rw [List.mem_singleton.mp (show t ∈ [k] from ht)]
      exact l
    | om h1 h2 =>
      simp only [D.size, sizeAll] at hz
      exact ((ih _ _ (by omega) h1).madeO h2).le (by simp only [D.size, sizeAll]; omega) (by simp only [D.dep, depAll]; omega)
    | um h1 h2 =>
      simp only [D.size, sizeAll] at hz
      exact ((ih _ _ (by omega) h1).madeU h2).le (by simp only [D.size, sizeAll]; omega) (by simp only [D.dep, depAll]; omega)
    | @tm x y _ _ h1 h2 =>
      simp only [D.size, sizeAll] at hz
      exact (((ih _ _ (by omega) h1).le (Nat.le_refl _) (Nat.le_max_left x.dep y.dep)).thenM ((ih _ _ (by omega) h2).le (Nat.le_refl _) (Nat.le_max_right x.dep y.dep))).le (by simp only [D.size, sizeAll]; omega) (by simp only [D.dep, depAll]; omega)
    | tu h1 h2 =>
      simp only [D.size, sizeAll] at hz
      exact ((ih _ _ (by omega) h1).thenU h2).le (by simp only [D.size, sizeAll]; omega) (by simp only [D.dep, depAll]; omega)
    | @us nm p x y _ _ _ c h1 h2 h3 =>
      simp only [D.size, sizeAll] at hz
      exact (((ih _ _ (by omega) h1).le (Nat.le_refl _) (Nat.le_max_left x.dep y.dep)).usedAt ((ih _ _ (by omega) h2).le (Nat.le_refl _) (Nat.le_max_right x.dep y.dep)) h3).le (by simp only [D.size, sizeAll]; omega) (by simp only [D.dep, depAll]; omega)
theorem Bd.small {n m : Nat} {r : Told} (h : Bd n m r) (a : n ≤ 4000) (b : m ≤ 60) : Small r := ⟨by have := h.1; omega, fun t ht => by have := h.2.1 t ht; omega, by have := h.2.2; omega⟩
theorem size_mem {p : D} : ∀ {l : List D}, p ∈ l → p.size ≤ sizeAll l
  | [], h => by cases h
  | d :: r, h => by
    simp only [sizeAll]
    rcases List.mem_cons.mp h with e | q
    · rw [e]; omega
    · have := size_mem q; omega
/-- the nodes are no greater and no deeper -/
theorem nodes_bd : ∀ (n : Nat) (u : D), u.size ≤ n → u.allK = true → ∀ x ∈ u.nodes, x.size ≤ u.size ∧ x.dep ≤ u.dep := by
  intro n
  induction n with
  | zero => intro u h; have := u.size_pos; omega
  | succ n ih =>
    intro u h ha x hx
    obtain ⟨f, hp⟩ := allK_fm ha
    obtain ⟨ps, _⟩ := f.psize
    rw [f.nodes] at hx
    rcases List.mem_cons.mp hx with e | hx
    · rw [e]; exact ⟨Nat.le_refl _, Nat.le_refl _⟩
    · have key : ∀ l : List D, sizeAll l ≤ n → (∀ p ∈ l, p.allK = true) → x ∈ nodesAll l → ∃ p ∈ l, x.size ≤ p.size ∧ x.dep ≤ p.dep := by
        intro l
        induction l with
        | nil => intro _ _ z; cases z
        | cons d r ihr =>
          intro hl hk z
          simp only [sizeAll] at hl
          rcases List.mem_append.mp z with z | z
          · exact ⟨d, List.mem_cons_self, ih d (by omega) (hk d List.mem_cons_self) x z⟩
          · obtain ⟨p, h1, h2⟩ := ihr (by omega) (fun p hp => hk p (List.mem_cons_of_mem _ hp)) z
            exact ⟨p, List.mem_cons_of_mem _ h1, h2⟩
      obtain ⟨p, h1, h2, h3⟩ := key u.parts.reverse (by rw [sizeAll_rev]; omega) (fun p hp' => hp p (List.mem_reverse.mp hp')) hx
      have hp1 := List.mem_reverse.mp h1
      have hd := parts_dep f (Nat.le_refl _) p hp1
      have hs : p.size ≤ sizeAll u.parts := size_mem hp1
      exact ⟨by omega, by omega⟩
end S4

namespace S4
open PySem PySem.Spec PyProof.Rows L2 LamX KT
open PySem.W (Frag)
inductive Run : List D → List D → List D → Prop
  | nil {S : List D} : Run S [] S
  | cons {S R S' : List D} {u : D} : Run (S ++ [u]) R S' → Run (S ++ u.parts) (u :: R) S'
theorem run_nodes : ∀ (n : Nat) (u : D), u.size ≤ n → u.allK = true → ∀ (S R S' : List D), Run (S ++ [u]) R S' → Run S (u.nodes.reverse ++ R) S' := by
  intro n
  induction n with
  | zero => intro u h; have := u.size_pos; omega
  | succ n ih =>
    intro u h ha S R S' hr
    obtain ⟨f, hp⟩ := allK_fm ha
    obtain ⟨ps, _⟩ := f.psize
    have key : ∀ (l : List D), sizeAll l ≤ n → (∀ p ∈ l, p.allK = true) → ∀ (S R S' : List D), Run (S ++ l) R S' → Run S ((nodesAll l.reverse).reverse ++ R) S' := by
      intro l
      induction l with
      | nil => intro _ _ S R S' q; simpa [nodesAll] using q
      | cons d r ihr =>
        intro hl hk S R S' q
        simp only [sizeAll] at hl
        have e : (nodesAll (d :: r).reverse).reverse ++ R = d.nodes.reverse ++ ((nodesAll r.reverse).reverse ++ R) := by
          rw [List.reverse_cons, nodesAll_app]
          simp [nodesAll]
        rw [e]
        refine ih d (by omega) (hk d List.mem_cons_self) _ _ _ (ihr (by omega) (fun p hp => hk p (List.mem_cons_of_mem _ hp)) _ _ _ ?_)
        rw [List.append_assoc]
        exact q
    have e : u.nodes.reverse ++ R = (nodesAll u.parts.reverse).reverse ++ (u :: R) := by rw [f.nodes]; simp
    rw [e]
    exact key u.parts (by omega) hp _ _ _ (.cons hr)
theorem Run.inv {S R S' : List D} {u : D} (h : Run S (u :: R) S') : ∃ S0, S = S0 ++ u.parts ∧ Run (S0 ++ [u]) R S' := by
  cases h with
  | cons h => exact ⟨_, rfl, h⟩
theorem Run.end_ {S S' : List D} (h : Run S [] S') : S = S' := by
  cases h
  rfl
/-- what a telling is told as -/
def Res (ok : Addr → Prop) (H : Hp) (v : V) : Option Told → Prop
  | none => v = .non
  | some r => ∃ p L us g, v = .ref p ∧ ok L ∧ H p = some (.tup [.ref L, g]) ∧ H L = some (.lst us) ∧ Tys H us r.1 ∧ TyAt H g r.2
theorem Res.mono {ok ok' : Addr → Prop} {H H' : Hp} {v : V} {o : Option Told} (h : Res ok H v o) (hk : ∀ L, ok L → ok' L) (hl : ∀ L us, ok L → H L = some (.lst us) → H' L = some (.lst us)) (tk : TK H H') : Res ok' H' v o := by
  cases o with
  | none => exact h
  | some r =>
    obtain ⟨p, L, us, g, e, h0, h1, h2, h3, h4⟩ := h
    exact ⟨p, L, us, g, e, hk L h0, tk _ _ h1, hl L us h0 h2, h3.mono tk, h4.mono tk⟩
theorem Res.same {ok ok' : Addr → Prop} {H H' : Hp} {v : V} {o : Option Told} (h : Res ok H v o) (hk : ∀ L, ok L → ok' L) (s : Same H H') : Res ok' H' v o := h.mono hk (fun L us _ e => s _ _ e) (TK.of_same s)
theorem paired_split {α β : Type} {F : α → β → Prop} {ts rs : List β} : ∀ {us : List α}, Paired F us (ts ++ rs) → Paired F (us.take ts.length) ts ∧ Paired F (us.drop ts.length) rs := by
  induction ts with
  | nil => intro us h; exact ⟨.nil, h⟩
  | cons t ts ih =>
    intro us h
    cases h with
    | cons h1 h2 =>
      obtain ⟨a, b⟩ := ih h2
      exact ⟨.cons h1 a, b⟩
section
variable {P : Program} {w : World} {K : Frag} {mg : Str → Option Value} {base : Heap}
def spNodeK : Sp := fun vs H Q _ => ∃ x u L us, vs = [x, .ref L] ∧ DAt H x u ∧ u.dep ≤ 60 ∧ Fm u ∧ H L = some (.lst us) ∧ Paired (Res (fun _ => True) H) us (u.parts.map D.tl) ∧ (∀ o ∈ u.parts.map D.tl, ∀ r, o = some r → Small r) ∧
  ∀ v' H', Same H H' → Res (fun L => H L = none) H' v' u.tl → Q v' H'
def spFIK (fp ft : Addr) : Sp := fun vs H Q _ => ∃ v d, vs = [v, .ref fp, .ref ft] ∧ DAt H v d ∧ d.allK = true ∧ d.size ≤ 4000 ∧ d.dep ≤ 60 ∧ (∀ u ∈ d.nodes, u.dep ≤ 60 ∧ ∀ r, u.tl = some r → Small r) ∧ ∀ v' H', Same H H' → Res (fun L => H L = none) H' v' d.tl → Q v' H'
theorem ok_fromInsideK {f fn fp ft : Addr} {fd fdn fdp fdt : FuncData} (T : Top K mg "from_inside" sFromInside pFromInside f fd) (TN : Top K mg "nodes_in" sNodesIn pNodesIn fn fdn) (TP : Top K mg "parts_of_knot" sPartsOfKnot pPartsOfKnot fp fdp) (TT : Top K mg "_tell" sTell pTell ft fdt)
    (GN : FnOk P w K mg base CX0 3 fn fdn pNodesIn (spNodesK fp)) (GP : FnOk P w K mg base CX0 2 fp fdp pPartsOfKnot spPartsK) (GT : FnOk P w K mg base CX0 2 ft fdt pTell spNodeK) (B : Blt mg) : FnOk P w K mg base CX0 4 f fd pFromInside (spFIK fp ft) := by
  refine T.F.ok scFromInside (fun vs H Q E h => ?_) (fun cdv A outer s H vs Q E hr h => ?_)
  · obtain ⟨_, _, rfl, _⟩ := h
    rfl
  · obtain ⟨v, t, rfl, ht, hk, hz, hdp, hb, k⟩ := h
    have hr2 : Room 2 _ := hr.mono (by decide)
    refine ⟨_, (pss_cons (ps_set (i := 3) scFromInside.nd rfl (Or.inl rfl) (pe_lst pa_nil))
      (pss_cons (ps_for PassesOwn.never rfl (pi_reversed (by rfl) B.reversed (pa_cons (pe_call GN hr rfl TN.g TN.F.kp TN.b .nil pass0 (pa_cons (pv 0) (pa_cons (pv 1) pa_nil))) pa_nil)) (pg_name (i := 4) scFromInside.nd rfl (Or.inl rfl))
        (pss_cons (ps_set (i := 5) scFromInside.nd rfl (Or.inl rfl) (pe_op op_sub (pe_callB call_len_seq (by rfl) B.len PySem.boot_len (pa_cons (pv 3) pa_nil)) (pe_callB call_len_seq (by rfl) B.len PySem.boot_len (pa_cons (pe_callL (i := 1) (f := fp) GP hr2 rfl (.inl rfl) TP.F.kp TP.b .nil pass0 (pa_cons (pv 4) pa_nil)) pa_nil))))
      (pss_cons (ps_set (i := 6) scFromInside.nd rfl (Or.inl rfl) (pe_slice sl_list (pv 3) (po_some (pv 5)) po_none))
      (pss_cons (KT.ps_delTail (pv 3) (po_some (pv 5)))
      (pss_one (ps_expr (pe_bm PySem.F.plainAttrs_list PySem.F.slot_list_append PySem.F.type_list_append mt_append (pv 3) (pa_cons (pe_callL (i := 2) (f := ft) GT hr2 rfl (.inl rfl) TT.F.kp TT.b .nil pass0 (pa_cons (pv 4) (pa_cons (pv 6) pa_nil))) pa_nil))))))))
      (pss_one (ps_ret (pe_ix ix_list (pv 3) pe_int (fun _ _ => rfl)))))), ?_⟩
    refine ⟨by show 0 ≤ sizeLine; exact Nat.zero_le _, fun W hW => ?_⟩
    have sW : Same H (upd H W (.lst [])) := same_upd hW
    refine ⟨v, rfl, .ref fp, rfl, v, t, rfl, ht.mono (TK.of_same sW), hk, by omega, fun L ns H1 s1 nL eL hT => ?_⟩
    have nWL : W ≠ L := ne_of_none upd_same nL
    have nHL : H L = none := by
      rw [upd_ne nWL.symm] at nL
      exact nL
    have ln := hT.length
    obtain ⟨hnl, hna⟩ := nodes_len t.size t (Nat.le_refl _) hk
    refine ⟨L, ns, rfl, SqL.of eL, ?_⟩
    refine for_it walk_rev (fun i σ H' => ∃ (v4 v5 v6 : Option V) (us : List V) (S : List D), σ = [some v, some (.ref fp), some (.ref ft), some (.ref W), v4, v5, v6] ∧ H' W = some (.lst us) ∧ Same H H' ∧ H' L = some (.lst ns) ∧ DsAt H' ns t.nodes ∧ Paired (Res (fun M => M ≠ W ∧ H M = none) H') us (S.map D.tl) ∧ S.length ≤ i ∧ Run S (t.nodes.reverse.drop i) [t] ∧ ∀ x ∈ S, x ∈ t.nodes)
      ⟨none, none, none, [], [], rfl, s1 _ _ upd_same, sW.trans s1, eL, hT, .nil, Nat.le_refl _, by have q := run_nodes t.size t (Nat.le_refl _) hk [] [] [t] .nil; simpa using q, fun x hx => by cases hx⟩ ?_ ?_ ?_
    · rintro i σ H' hi ⟨_, _, _, _, _, _, _, _, e, _⟩
      exact SqL.of e
    · rintro i x σ H' H2 hi ⟨v4, v5, v6, us, S, rfl, eW, hs, eL', hN, hU, hSi, hR, hSn⟩ ⟨rfl, hx'⟩
      obtain ⟨u, hu, hxu⟩ := hN.at_ hx'
      have mu := List.mem_of_getElem? hu
      obtain ⟨fu, _⟩ := allK_fm (hna u mu)
      obtain ⟨dpu, _⟩ := hb u mu
      have lN := hN.length
      have hd : t.nodes.reverse.drop i = u :: t.nodes.reverse.drop (i + 1) := by
        have q : t.nodes.reverse[i]? = some u := by
          rw [List.getElem?_reverse (by omega), ← lN]
          exact hu
        obtain ⟨h1, h2⟩ := List.getElem?_eq_some_iff.mp q
        rw [List.drop_eq_getElem_cons h1, h2]
      rw [hd] at hR
      obtain ⟨S0, rfl, hR'⟩ := hR.inv
      have lU := hU.length
      rw [List.map_append] at hU
      obtain ⟨hU1, hU2⟩ := paired_split hU
      rw [List.length_map] at hU1 hU2
      rw [List.length_map, List.length_append] at lU
      rw [List.length_append] at hSi
      refine ⟨_, rfl, W, us, rfl, .inl (SqL.of eW), rfl, x, rfl, x, u, rfl, hxu, fu, fun p zs hp hzs => ⟨p, zs, rfl, .inr (SqT.of upd_same), _, _, rfl, rfl, ?_⟩⟩
      have lz := hzs.length
      have e5 : (us.length : Int) - (zs.length : Int) = (S0.length : Int) := by omega
      dsimp only
      rw [e5]
      have np : W ≠ p := ne_of_none eW hp
      have npL : L ≠ p := ne_of_none eL' hp
      have eW1 : upd H2 p (.tup zs) W = some (.lst us) := by rw [upd_ne np]; exact eW
      refine ⟨_, rfl, _, rfl, _, rfl, W, us, rfl, SqL.of eW1, fun q hq => ?_⟩
      rw [cutV_from]
      have nq : W ≠ q := ne_of_none eW1 hq
      have npq : L ≠ q := ne_of_none (show upd H2 p (.tup zs) L = some (.lst ns) by rw [upd_ne npL]; exact eL') hq
      have eW2 : upd (upd H2 p (.tup zs)) q (.lst (us.drop S0.length)) W = some (.lst us) := by rw [upd_ne nq]; exact eW1
      refine ⟨_, rfl, _, rfl, _, rfl, W, us, S0.length, rfl, rfl, eW2, by omega, ?_⟩
      have tk : TK H2 (upd (upd (upd H2 p (.tup zs)) q (.lst (us.drop S0.length))) W (.lst (us.take S0.length))) := ((TK.upd_new hp).trans (TK.upd_new hq)).trans (TK.upd_lst eW2)
      have s2 : Same H (upd (upd (upd H2 p (.tup zs)) q (.lst (us.drop S0.length))) W (.lst (us.take S0.length))) := same_over ((hs.trans (same_upd hp)).trans (same_upd hq)) hW
      have nqW : q ≠ W := nq.symm
      have lsK : ∀ M zs', M ≠ W → H2 M = some (.lst zs') → upd (upd (upd H2 p (.tup zs)) q (.lst (us.drop S0.length))) W (.lst (us.take S0.length)) M = some (.lst zs') := fun M zs' nM e => by
        rw [upd_ne nM]
        exact ((same_upd hp).trans (same_upd hq)) _ _ e
      refine ⟨_, rfl, .inl ⟨rfl, _, SqL.of upd_same⟩, rfl, x, rfl, _, rfl, x, u, q, us.drop S0.length, rfl, hxu.mono tk, dpu, fu, by rw [upd_ne nqW, upd_same], L2.Paired.mapP hU2 fun a b h => h.mono (fun _ _ => trivial) (fun M zs' o e => lsK M zs' o.1 e) tk, ?_, fun v' H6 s6 hv' => ?_⟩
      · intro o ho r er
        obtain ⟨y, hy, rfl⟩ := List.mem_map.mp ho
        exact (hb y (hSn y (List.mem_append.mpr (.inr hy)))).2 r er
      have eW6 := s6 _ _ (upd_same (H := upd (upd H2 p (.tup zs)) q (.lst (us.drop S0.length))) (a := W) (o := .lst (us.take S0.length)))
      refine ⟨W, us.take S0.length, v', rfl, rfl, eW6, by rw [List.length_take, sizeLine_eq]; omega, ?_⟩
      have tk6 : TK H2 H6 := tk.trans (TK.of_same s6)
      have tk7 : TK H6 (upd H6 W (.lst (us.take S0.length ++ [v']))) := TK.upd_lst eW6
      refine ⟨_, _, _, us.take S0.length ++ [v'], S0 ++ [u], rfl, upd_same, same_over (s2.trans s6) hW, ?_, hN.mono (tk6.trans tk7), ?_, ?_, hR', ?_⟩
      · rw [upd_ne nWL.symm]
        refine s6 _ _ ?_
        rw [upd_ne nWL.symm, upd_ne npq, upd_ne npL]
        exact eL'
      · rw [List.map_append]
        refine Paired.snoc (L2.Paired.mapP hU1 fun a b h => h.mono (fun _ h => h) (fun M zs' o e => ?_) (tk6.trans tk7)) (hv'.mono (fun M nM => ⟨fun z => ?_, s2.free nM⟩) (fun M zs' nM e => ?_) tk7)
        · rw [upd_ne o.1]
          exact s6 _ _ (lsK M zs' o.1 e)
        · rw [z, upd_same] at nM
          cases nM
        · have : M ≠ W := fun z => by rw [z, upd_same] at nM; cases nM
          rw [upd_ne this]
          exact e
      · rw [List.length_append, List.length_singleton]
        omega
      · intro y hy
        rcases List.mem_append.mp hy with hy | hy
        · exact hSn y (List.mem_append.mpr (.inl hy))
        · rw [List.mem_singleton.mp hy]
          exact mu
    · rintro σ H' ⟨v4, v5, v6, us, S, rfl, eW, hs, eL', hN, hU, hSi, hR, hSn⟩
      rw [ln, ← List.length_reverse, List.drop_length] at hR
      obtain rfl := hR.end_
      cases hU with
      | @cons x _ xs _ hx hU =>
        exact ⟨_, rfl, W, _, _, _, rfl, rfl, SqL.of eW, atI_nat (j := 0) rfl, k _ _ hs (hx.mono (fun M h => h.2) (fun _ _ _ e => e) (TK.refl _))⟩
end
end S4

namespace S4
open PySem PySem.Spec PyProof.Rows L2 LamX KT
open PySem.W (Frag)
theorem cutV_last (us : List V) : cutV us none (some (-1)) = us.dropLast := by
  unfold cutV HT.sIx
  rw [List.dropLast_eq_take]
  simp only [List.drop_zero]
  congr 1
  split <;> omega
theorem atI_last {us : List V} {a : V} (h : us.getLast? = some a) : atI us (-1) = some a := by
  unfold atI ixN
  have hne : us ≠ [] := by rintro rfl; cases h
  have hl : 0 < us.length := List.length_pos_iff.mpr hne
  rw [if_neg (by omega), if_pos (by omega)]
  show us[(us.length + -1 : Int).toNat]? = _
  rw [List.getLast?_eq_getElem?] at h
  rw [show ((us.length : Int) + -1).toNat = us.length - 1 by omega]
  exact h
theorem tys_last {H : Hp} {us : List V} {ts : List Ty} (h : Tys H us ts) (hl : 0 < ts.length) : ∃ a, us.getLast? = some a ∧ TyAt H a (ts.getLastD (.w "")) := by
  induction h with
  | nil => simp at hl
  | @cons v t vs ts h r ih =>
    cases r with
    | nil => exact ⟨v, rfl, h⟩
    | cons h' r' =>
      obtain ⟨a, e1, e2⟩ := ih (by simp)
      exact ⟨a, by rw [List.getLast?_cons_cons]; exact e1, by simpa using e2⟩
theorem Tys.dropLast {H : Hp} {us : List V} {ts : List Ty} (h : Tys H us ts) : Tys H us.dropLast ts.dropLast := by
  induction h with
  | nil => exact .nil
  | @cons v t vs ts h r ih =>
    cases r with
    | nil => exact .nil
    | cons h' r' => exact .cons h ih
theorem Tys.drop {H : Hp} {us : List V} {ts : List Ty} (h : Tys H us ts) : ∀ n, Tys H (us.drop n) (ts.drop n) := by
  intro n
  induction n generalizing us ts with
  | zero => exact h
  | succ n ih =>
    cases h with
    | nil => exact .nil
    | cons a r => exact ih r
theorem Tys.take {H : Hp} {us : List V} {ts : List Ty} (h : Tys H us ts) : ∀ n, Tys H (us.take n) (ts.take n) := by
  intro n
  induction n generalizing us ts with
  | zero => exact .nil
  | succ n ih =>
    cases h with
    | nil => exact .nil
    | cons a r => exact .cons a (ih r)
theorem Tys.get {H : Hp} {us : List V} {ts : List Ty} (h : Tys H us ts) : ∀ {j : Nat} {t : Ty}, ts[j]? = some t → ∃ v, us[j]? = some v ∧ TyAt H v t := by
  induction h with
  | nil => intro j t e; simp at e
  | cons h _ ih =>
    intro j t e
    cases j with
    | zero =>
      obtain rfl := Option.some.inj (show some _ = some t from e)
      exact ⟨_, rfl, h⟩
    | succ j => exact ih (by simpa using e)
section
variable {P : Program} {w : World} {K : Frag} {mg : Str → Option Value} {base : Heap}
/-- of a knot of that name, whose parts all tell something -/
def spTeller (nm : Str) : Sp := fun vs H Q _ => ∃ x r L us rs, vs = [x, .ref L] ∧ DAt H x (.t (.s nm :: r)) ∧ Fm (.t (.s nm :: r)) ∧ H L = some (.lst us) ∧ Paired (fun v r => Res (fun _ => True) H v (some r)) us rs ∧ (D.t (.s nm :: r)).parts.map D.tl = rs.map some ∧ (∀ r ∈ rs, Small r) ∧
  ∀ v' H', Same H H' → Res (fun L => H L = none) H' v' (D.t (.s nm :: r)).tl → Q v' H'
theorem ok_tellIs {f : Addr} {fd : FuncData} (T : Top K mg "_tell_is" sTellIs pTellIs f fd) : FnOk P w K mg base CX0 1 f fd pTellIs (spTeller "is") := by
  refine T.F.ok scTellIs (fun vs H Q E h => ?_) (fun cdv A outer s H vs Q E hr h => ?_)
  · obtain ⟨_, _, _, _, _, rfl, _⟩ := h
    rfl
  · obtain ⟨x, r, L, us, rs, rfl, hd, f, eL, hp, hr2, hsm, k⟩ := h
    refine ⟨_, pss_one (ps_ret (pe_tup (pa_cons (pe_lst (pa_cons (pe_ix ix_tup (pv 0) pe_int (fun _ _ => rfl)) pa_nil)) (pa_cons (pe_ix ix_tup (pv 0) pe_int (fun _ _ => rfl)) pa_nil)))), ?_⟩
    obtain ⟨d, rfl, hkd⟩ : ∃ d, r = [d] ∧ d.isKd = true := by
      generalize hu : D.t (.s "is" :: r) = u at f
      cases f with
      | is h => injection hu with hu; injection hu with _ hu; exact ⟨_, hu, h⟩
      | _ => exact absurd hu (by simp)
    obtain ⟨kd, hk⟩ := Option.isSome_iff_exists.mp hkd
    cases hd with
    | @t p xs _ e h =>
      cases h with
      | cons h0 h => cases h with
        | @cons y _ _ _ h1 h => cases h with
          | nil =>
            cases h0
            have ty := h1.ty hk
            refine ⟨_, rfl, p, _, _, _, rfl, rfl, SqT.of e, atI_nat (j := 1) rfl, by show 1 ≤ sizeLine; rw [sizeLine_eq]; omega, fun M nM => ?_⟩
            have s1 := same_upd (o := .lst [y]) nM
            refine ⟨_, rfl, p, _, _, _, rfl, rfl, SqT.of (s1 _ _ e), atI_nat (j := 1) rfl, by show 2 ≤ sizeLine; rw [sizeLine_eq]; omega, fun q nq => ?_⟩
            have s2 := same_upd (o := .tup [.ref M, y]) nq
            have tyq := ty.mono (TK.of_same (s1.trans s2))
            refine k _ _ (s1.trans s2) ?_
            rw [tl_of (.is hk)]
            exact ⟨q, M, [y], y, rfl, nM, upd_same, s2 _ _ upd_same, .cons tyq .nil, tyq⟩
theorem ok_tellOm {f : Addr} {fd : FuncData} (T : Top K mg "_tell_over_made" sTellOverMade pTellOverMade f fd) (B : Blt mg) : FnOk P w K mg base CX0 1 f fd pTellOverMade (spTeller "over made") := by
  refine T.F.ok scTellOverMade (fun vs H Q E h => ?_) (fun cdv A outer s H vs Q E hr h => ?_)
  · obtain ⟨_, _, _, _, _, rfl, _⟩ := h
    rfl
  · obtain ⟨x, r, L, us, rs, rfl, hd, f, eL, hp, hr2, hsm, k⟩ := h
    refine ⟨_, (pss_cons (ps_asg (pe_ix ix_list (pv 1) pe_int (fun _ _ => rfl)) (pg_tup (by rfl) (pgs_cons (pg_name (i := 2) scTellOverMade.nd rfl (Or.inl rfl)) (pgs_cons (pg_name (i := 3) scTellOverMade.nd rfl (Or.inl rfl)) pgs_nil))))
      (pss_cons (ps_if (pt_cmpR op_lt (pe_callB call_len_seq (by rfl) B.len PySem.boot_len (pa_cons (pv 2) pa_nil)) pe_int (nomark _)) (pss_one (ps_ret pe_non)) pss_nil)
      (pss_one (ps_ret (pe_tup (pa_cons (pe_slice sl_list (pv 2) po_none (po_some (pe_un un_neg pe_int))) (pa_cons (pe_tup (pa_cons pe_str (pa_cons (pv 3) (pa_cons (pe_ix ix_list (pv 2) (pe_un un_neg pe_int) (fun _ _ => rfl)) pa_nil)))) pa_nil))))))), ?_⟩
    obtain ⟨d, rfl⟩ : ∃ d, r = [d] := by
      generalize hu : D.t (.s "over made" :: r) = u at f
      cases f with
      | om => injection hu with hu; injection hu with _ hu; exact ⟨_, hu⟩
      | _ => exact absurd hu (by simp)
    cases hp with
    | nil => cases hr2
    | @cons v0 r0 us' rs' h0 hp' =>
      have e0 : d.tl = some r0 := (List.cons.inj hr2).1
      obtain ⟨row, goal⟩ := r0
      obtain ⟨p, M, ms, g, rfl, _, ep, eM, hT, hg⟩ := h0
      have hsm0 := hsm _ List.mem_cons_self
      have lT := hT.length
      have lsm : row.length ≤ 4000 := hsm0.1
      refine ⟨_, rfl, L, _, _, _, rfl, rfl, SqL.of eL, atI_nat (j := 0) rfl, p, _, rfl, SqT.of ep, rfl, _, _, rfl, _, _, rfl, rfl, ?_⟩
      refine ⟨_, rfl, M, ms, rfl, .inl (SqL.of eM), _, _, rfl, rfl, _, rfl, ?_⟩
      by_cases c : row.length < 2
      · rw [decide_eq_true (show (ms.length : Int) < 2 by rw [lT]; exact Int.ofNat_lt.mpr c)]
        refine iteT (k _ H (Same.refl H) ?_)
        have et : (D.t [.s "over made", d]).tl = none := by simp [D.tl, tellOf, tlAll, e0, madeO, c]
        rw [et]
        rfl
      · rw [decide_eq_false (show ¬ (ms.length : Int) < 2 by rw [lT]; intro z; exact c (Int.ofNat_lt.mp z))]
        obtain ⟨a, ea, ta⟩ := tys_last hT (by show 0 < row.length; omega)
        refine iteF ⟨_, rfl, _, rfl, _, rfl, M, ms, rfl, SqL.of eM, fun N nN => ?_⟩
        have e1 : cutV ms none (some (-1)) = ms.dropLast := cutV_last ms
        rw [e1]
        have s1 := same_upd (o := .lst ms.dropLast) nN
        refine ⟨_, rfl, _, rfl, _, rfl, M, _, _, a, rfl, rfl, SqL.of (s1 _ _ eM), atI_last ea, by show 3 ≤ sizeLine; rw [sizeLine_eq]; omega, fun q1 n1 => ?_⟩
        have s2 := same_upd (o := .tup [.str "over", g, a]) n1
        refine ⟨by show 2 ≤ sizeLine; rw [sizeLine_eq]; omega, fun q2 n2 => ?_⟩
        have s3 := same_upd (o := .tup [.ref N, .ref q1]) n2
        have s13 := (s1.trans s2).trans s3
        refine k _ _ s13 ?_
        rw [tl_of (.om e0 (r := (row.dropLast, .n .ov goal (row.getLastD (.w "")))) (by simp [madeO, c]))]
        exact ⟨q2, N, ms.dropLast, .ref q1, rfl, nN, upd_same, (s2.trans s3) _ _ upd_same, hT.dropLast.mono (TK.of_same s13), .n (s3 _ _ upd_same) (hg.mono (TK.of_same s13)) (ta.mono (TK.of_same s13))⟩
theorem cutV_take (us : List V) (n : Nat) : cutV us none (some (n : Int)) = us.take n := by
  unfold cutV
  rw [HT.sIx_nat]
  have e : HT.sIx us.length 0 none = 0 := rfl
  rw [e, List.drop_zero, Nat.sub_zero]
  by_cases h : n ≤ us.length
  · rw [Nat.min_eq_left h]
  · rw [Nat.min_eq_right (by omega), List.take_of_length_le (Nat.le_refl _), List.take_of_length_le (by omega)]
theorem fm_um {r : List D} (f : Fm (.t (.s "under made" :: r))) : ∃ d, r = [d] := by
  generalize hu : D.t (.s "under made" :: r) = u at f
  cases f with
  | um => injection hu with hu; injection hu with _ hu; exact ⟨_, hu⟩
  | _ => exact absurd hu (by simp)
theorem fm_tm {r : List D} (f : Fm (.t (.s "then made" :: r))) : ∃ x y, r = [x, y] := by
  generalize hu : D.t (.s "then made" :: r) = u at f
  cases f with
  | tm => injection hu with hu; injection hu with _ hu; exact ⟨_, _, hu⟩
  | _ => exact absurd hu (by simp)
theorem fm_tu {r : List D} (f : Fm (.t (.s "then used" :: r))) : ∃ (n : Nat) (y : D), r = [.i n, y] := by
  generalize hu : D.t (.s "then used" :: r) = u at f
  cases f with
  | @tu p y h => injection hu with hu; injection hu with _ hu; exact ⟨p.toNat, y, by rw [hu, Int.toNat_of_nonneg h]⟩
  | _ => exact absurd hu (by simp)
theorem fm_ou {r : List D} (f : Fm (.t (.s "over used" :: r))) : ∃ (n : Nat) (x y : D), r = [.i n, x, y] := by
  generalize hu : D.t (.s "over used" :: r) = u at f
  cases f with
  | @ou p x y h => injection hu with hu; injection hu with _ hu; exact ⟨p.toNat, x, y, by rw [hu, Int.toNat_of_nonneg h]⟩
  | _ => exact absurd hu (by simp)
theorem fm_uu {r : List D} (f : Fm (.t (.s "under used" :: r))) : ∃ (n : Nat) (x y : D), r = [.i n, x, y] := by
  generalize hu : D.t (.s "under used" :: r) = u at f
  cases f with
  | @uu p x y h => injection hu with hu; injection hu with _ hu; exact ⟨p.toNat, x, y, by rw [hu, Int.toNat_of_nonneg h]⟩
  | _ => exact absurd hu (by simp)
theorem fm_ct {r : List D} (f : Fm (.t (.s "cut" :: r))) : ∃ (n : Nat) (x y : D), r = [.i n, x, y] := by
  generalize hu : D.t (.s "cut" :: r) = u at f
  cases f with
  | @ct p x y h => injection hu with hu; injection hu with _ hu; exact ⟨p.toNat, x, y, by rw [hu, Int.toNat_of_nonneg h]⟩
  | _ => exact absurd hu (by simp)
theorem ok_tellUm {f : Addr} {fd : FuncData} (T : Top K mg "_tell_under_made" sTellUnderMade pTellUnderMade f fd) (B : Blt mg) : FnOk P w K mg base CX0 1 f fd pTellUnderMade (spTeller "under made") := by
  refine T.F.ok scTellUnderMade (fun vs H Q E h => ?_) (fun cdv A outer s H vs Q E hr h => ?_)
  · obtain ⟨_, _, _, _, _, rfl, _⟩ := h
    rfl
  · obtain ⟨x, r, L, us, rs, rfl, hd, f, eL, hp, hr2, hsm, k⟩ := h
    refine ⟨_, (pss_cons (ps_asg (pe_ix ix_list (pv 1) pe_int (fun _ _ => rfl)) (pg_tup (by rfl) (pgs_cons (pg_name (i := 2) scTellUnderMade.nd rfl (Or.inl rfl)) (pgs_cons (pg_name (i := 3) scTellUnderMade.nd rfl (Or.inl rfl)) pgs_nil))))
      (pss_cons (ps_if (pt_cmpR op_lt (pe_callB call_len_seq (by rfl) B.len PySem.boot_len (pa_cons (pv 2) pa_nil)) pe_int (nomark _)) (pss_one (ps_ret pe_non)) pss_nil)
      (pss_one (ps_ret (pe_tup (pa_cons (pe_slice sl_list (pv 2) (po_some pe_int) po_none) (pa_cons (pe_tup (pa_cons pe_str (pa_cons (pe_ix ix_list (pv 2) pe_int (fun _ _ => rfl)) (pa_cons (pv 3) pa_nil)))) pa_nil))))))), ?_⟩
    obtain ⟨d, rfl⟩ := fm_um f
    cases hp with
    | nil => cases hr2
    | @cons v0 r0 us' rs' h0 hp' =>
      have e0 : d.tl = some r0 := (List.cons.inj hr2).1
      obtain ⟨row, goal⟩ := r0
      obtain ⟨p, M, ms, g, rfl, _, ep, eM, hT, hg⟩ := h0
      have lT := hT.length
      have lsm : row.length ≤ 4000 := (hsm _ List.mem_cons_self).1
      refine ⟨_, rfl, L, _, _, _, rfl, rfl, SqL.of eL, atI_nat (j := 0) rfl, p, _, rfl, SqT.of ep, rfl, _, _, rfl, _, _, rfl, rfl, ?_⟩
      refine ⟨_, rfl, M, ms, rfl, .inl (SqL.of eM), _, _, rfl, rfl, _, rfl, ?_⟩
      by_cases c : row.length < 2
      · rw [decide_eq_true (show (ms.length : Int) < 2 by rw [lT]; exact Int.ofNat_lt.mpr c)]
        refine iteT (k _ H (Same.refl H) ?_)
        have et : (D.t [.s "under made", d]).tl = none := by
          have em : madeU (row, goal) = none := by
            rcases row with _ | ⟨a, _ | ⟨b, r⟩⟩
            · rfl
            · rfl
            · simp at c; omega
          simp [D.tl, tellOf, tlAll, e0, em]
        rw [et]
        rfl
      · rw [decide_eq_false (show ¬ (ms.length : Int) < 2 by rw [lT]; intro z; exact c (Int.ofNat_lt.mp z))]
        rcases row with _ | ⟨a, _ | ⟨b, row⟩⟩
        · simp at c
        · simp at c
        · cases hT with
          | @cons va _ ms _ ta hT =>
            refine iteF ⟨_, rfl, _, rfl, M, _, rfl, SqL.of eM, fun N nN => ?_⟩
            have e1 : cutV (va :: ms) (some 1) none = ms := cutV_from (b := 1)
            rw [e1]
            have s1 := same_upd (o := .lst ms) nN
            refine ⟨_, rfl, M, _, _, va, rfl, rfl, SqL.of (s1 _ _ eM), atI_nat (j := 0) rfl, _, rfl, by show 3 ≤ sizeLine; rw [sizeLine_eq]; omega, fun q1 n1 => ?_⟩
            have s2 := same_upd (o := .tup [.str "under", va, g]) n1
            refine ⟨by show 2 ≤ sizeLine; rw [sizeLine_eq]; omega, fun q2 n2 => ?_⟩
            have s3 := same_upd (o := .tup [.ref N, .ref q1]) n2
            have s13 := (s1.trans s2).trans s3
            refine k _ _ s13 ?_
            rw [tl_of (.um e0 (r := (b :: row, .n .un a goal)) rfl)]
            exact ⟨q2, N, ms, .ref q1, rfl, nN, upd_same, (s2.trans s3) _ _ upd_same, hT.mono (TK.of_same s13), .n (s3 _ _ upd_same) (ta.mono (TK.of_same s13)) (hg.mono (TK.of_same s13))⟩
theorem ok_tellTm {f : Addr} {fd : FuncData} (T : Top K mg "_tell_then_made" sTellThenMade pTellThenMade f fd) (B : Blt mg) : FnOk P w K mg base CX0 1 f fd pTellThenMade (spTeller "then made") := by
  refine T.F.ok scTellThenMade (fun vs H Q E h => ?_) (fun cdv A outer s H vs Q E hr h => ?_)
  · obtain ⟨_, _, _, _, _, rfl, _⟩ := h
    rfl
  · obtain ⟨x, r, L, us, rs, rfl, hd, f, eL, hp, hr2, hsm, k⟩ := h
    refine ⟨_, (pss_cons (ps_asg (pv 1) (pg_lst (by rfl) (pgs_cons (pg_tup (by rfl) (pgs_cons (pg_name (i := 2) scTellThenMade.nd rfl (Or.inl rfl)) (pgs_cons (pg_name (i := 3) scTellThenMade.nd rfl (Or.inl rfl)) pgs_nil)))
        (pgs_cons (pg_tup (by rfl) (pgs_cons (pg_name (i := 4) scTellThenMade.nd rfl (Or.inl rfl)) (pgs_cons (pg_name (i := 5) scTellThenMade.nd rfl (Or.inl rfl)) pgs_nil))) pgs_nil))))
      (pss_one (ps_ret (pe_tup (pa_cons (pe_op op_cat (pv 2) (pv 4)) (pa_cons (pe_tup (pa_cons pe_str (pa_cons (pv 3) (pa_cons (pv 5) pa_nil)))) pa_nil)))))), ?_⟩
    obtain ⟨d1, d2, rfl⟩ := fm_tm f
    have epp : (D.t [.s "then made", d1, d2]).parts = [d1, d2] := by simp [D.parts]
    rw [epp] at hr2
    cases hp with
    | nil => cases hr2
    | @cons v0 r0 us' rs' h0 hp' => cases hp' with
      | nil => exact absurd (congrArg List.length hr2) (by simp)
      | @cons v1 r1 us' rs' h1 hp' => cases hp' with
        | cons _ _ => exact absurd (congrArg List.length hr2) (by simp)
        | nil =>
          have e0 : d1.tl = some r0 := (List.cons.inj hr2).1
          have e1 : d2.tl = some r1 := (List.cons.inj (List.cons.inj hr2).2).1
          obtain ⟨row, goal⟩ := r0
          obtain ⟨row2, goal2⟩ := r1
          obtain ⟨p, M, ms, g, rfl, _, ep, eM, hT, hg⟩ := h0
          obtain ⟨p2, M2, ms2, g2, rfl, _, ep2, eM2, hT2, hg2⟩ := h1
          have lT := hT.length
          have lT2 := hT2.length
          have lsm : row.length ≤ 4000 := (hsm _ List.mem_cons_self).1
          have lsm2 : row2.length ≤ 4000 := (hsm _ (List.mem_cons_of_mem _ List.mem_cons_self)).1
          have lT' : ms.length = row.length := lT
          have lT2' : ms2.length = row2.length := lT2
          refine ⟨_, rfl, L, _, rfl, SqL.of eL, rfl, _, _, rfl, ⟨p, _, rfl, SqT.of ep, rfl, _, _, rfl, _, _, rfl, rfl, _, _, rfl, ⟨p2, _, rfl, SqT.of ep2, rfl, _, _, rfl, _, _, rfl, rfl, rfl, ?_⟩⟩⟩
          refine ⟨_, rfl, _, rfl, M, M2, _, _, rfl, rfl, eM, eM2, by rw [sizeLine_eq]; omega, fun N nN => ?_⟩
          have s1 := same_upd (o := .lst (ms ++ ms2)) nN
          refine ⟨_, rfl, _, rfl, by show 3 ≤ sizeLine; rw [sizeLine_eq]; omega, fun q1 n1 => ?_⟩
          have s2 := same_upd (o := .tup [.str "then", g, g2]) n1
          refine ⟨by show 2 ≤ sizeLine; rw [sizeLine_eq]; omega, fun q2 n2 => ?_⟩
          have s3 := same_upd (o := .tup [.ref N, .ref q1]) n2
          have s13 := (s1.trans s2).trans s3
          refine k _ _ s13 ?_
          rw [tl_of (.tm e0 e1)]
          exact ⟨q2, N, ms ++ ms2, .ref q1, rfl, nN, upd_same, (s2.trans s3) _ _ upd_same, (hT.append hT2).mono (TK.of_same s13), .n (s3 _ _ upd_same) (hg.mono (TK.of_same s13)) (hg2.mono (TK.of_same s13))⟩
end
end S4

namespace S4
open PySem PySem.Spec PyProof.Rows L2 LamX KT
open PySem.W (Frag)
section
variable {P : Program} {w : World} {K : Frag} {mg : Str → Option Value} {base : Heap}
theorem ok_tellOverUsed {f : Addr} {fd : FuncData} (T : Top K mg "_tell_over_used" sTellOverUsed pTellOverUsed f fd) (B : Blt mg) : FnOk P w K mg base CX0 1 f fd pTellOverUsed (spTeller "over used") := by
  refine T.F.ok scTellOverUsed (fun vs H Q E h => ?_) (fun cdv A outer s H vs Q E hr h => ?_)
  · obtain ⟨_, _, _, _, _, rfl, _⟩ := h
    rfl
  · obtain ⟨x, r, L, us, rs, rfl, hd, f, eL, hp, hr2, hsm, k⟩ := h
    refine ⟨_, (pss_cons (ps_set (i := 2) scTellOverUsed.nd rfl (Or.inl rfl) (pe_ix ix_tup (pv 0) pe_int (fun _ _ => rfl)))
      (pss_cons (ps_asg (pv 1) (pg_lst (by rfl) (pgs_cons (pg_tup (by rfl) (pgs_cons (pg_name (i := 3) scTellOverUsed.nd rfl (Or.inl rfl)) (pgs_cons (pg_name (i := 4) scTellOverUsed.nd rfl (Or.inl rfl)) pgs_nil)))
        (pgs_cons (pg_tup (by rfl) (pgs_cons (pg_name (i := 5) scTellOverUsed.nd rfl (Or.inl rfl)) (pgs_cons (pg_name (i := 6) scTellOverUsed.nd rfl (Or.inl rfl)) pgs_nil))) pgs_nil))))
      (pss_cons (ps_if (pt_cmpR op_ge (pv 2) (pe_callB call_len_seq (by rfl) B.len PySem.boot_len (pa_cons (pv 5) pa_nil)) (nomark _)) (pss_one (ps_ret pe_non)) pss_nil)
      (pss_one (ps_ret (pe_tup (pa_cons (pe_op op_cat (pe_op op_cat (pe_op op_cat (pe_slice sl_list (pv 5) po_none (po_some (pv 2))) (pe_lst (pa_cons (pe_tup (pa_cons pe_str (pa_cons (pe_ix ix_list (pv 5) (pv 2) (fun _ _ => rfl)) (pa_cons (pv 4) pa_nil)))) pa_nil))) (pv 3)) (pe_slice sl_list (pv 5) (po_some (pe_op op_add (pv 2) pe_int)) po_none)) (pa_cons (pv 6) pa_nil)))))))), ?_⟩
    obtain ⟨n, d1, d2, rfl⟩ := fm_ou f
    have epp : (D.t [.s "over used", .i n, d1, d2]).parts = [d1, d2] := by simp [D.parts]
    rw [epp] at hr2
    cases hp with
    | nil => exact absurd (congrArg List.length hr2) (by simp)
    | @cons v0 r0 us' rs' h0 hp' => cases hp' with
      | nil => exact absurd (congrArg List.length hr2) (by simp)
      | @cons v1 r1 us' rs' h1 hp' => cases hp' with
        | cons _ _ => exact absurd (congrArg List.length hr2) (by simp)
        | nil =>
          have e0 : d1.tl = some r0 := (List.cons.inj hr2).1
          have e1 : d2.tl = some r1 := (List.cons.inj (List.cons.inj hr2).2).1
          obtain ⟨row, goal⟩ := r0
          obtain ⟨row2, goal2⟩ := r1
          obtain ⟨p, M, ms, g, rfl, _, ep, eM, hT, hg⟩ := h0
          obtain ⟨p2, M2, ms2, g2, rfl, _, ep2, eM2, hT2, hg2⟩ := h1
          have hsm1 := hsm _ List.mem_cons_self
          have hsm2 := hsm _ (List.mem_cons_of_mem _ List.mem_cons_self)
          have lsm : row.length ≤ 4000 := hsm1.1
          have lsm2 : row2.length ≤ 4000 := hsm2.1
          have lT : ms.length = row.length := hT.length
          have lT2 : ms2.length = row2.length := hT2.length
          have hT : Tys H ms row := hT
          have hT2 : Tys H ms2 row2 := hT2
          have hg : TyAt H g goal := hg
          have hg2 : TyAt H g2 goal2 := hg2
          cases hd with
          | @t pk xs _ ek hk =>
            cases hk with
            | cons k0 hk => cases hk with
              | cons k1 hk =>
                cases k0
                cases k1
                refine ⟨_, rfl, pk, _, _, _, rfl, rfl, SqT.of ek, atI_nat (j := 1) rfl, ?_⟩
                refine ⟨_, rfl, L, _, rfl, SqL.of eL, rfl, _, _, rfl, ⟨p, _, rfl, SqT.of ep, rfl, _, _, rfl, _, _, rfl, rfl, _, _, rfl, ⟨p2, _, rfl, SqT.of ep2, rfl, _, _, rfl, _, _, rfl, rfl, rfl, ?_⟩⟩⟩
                refine ⟨_, rfl, _, rfl, M2, ms2, rfl, .inl (SqL.of eM2), _, _, rfl, rfl, _, rfl, ?_⟩
                by_cases c : row2.length ≤ n
                · rw [decide_eq_true (show (n : Int) ≥ (ms2.length : Int) by rw [lT2]; exact Int.ofNat_le.mpr c)]
                  refine iteT (k _ H (Same.refl H) ?_)
                  have et : (D.t [.s "over used", .i n, d1, d2]).tl = none := by
                    have e9 : row2[n]? = none := List.getElem?_eq_none c
                    simp [D.tl, tellOf, tlAll, e0, e1, both, placed, usedAt, e9]
                  rw [et]
                  rfl
                · rw [decide_eq_false (show ¬ (n : Int) ≥ (ms2.length : Int) by rw [lT2]; intro z; exact c (Int.ofNat_le.mp z))]
                  have ek2 : row2[n]? = some (row2[n]'(by omega)) := List.getElem?_eq_getElem (by omega)
                  generalize row2[n]'(by omega) = kd at ek2
                  obtain ⟨vk, evk, tvk⟩ := hT2.get ek2
                  refine iteF ⟨_, rfl, _, rfl, _, rfl, M2, ms2, rfl, SqL.of eM2, fun A1 nA => ?_⟩
                  rw [cutV_take]
                  have s1 := same_upd (o := .lst (ms2.take n)) nA
                  refine ⟨_, rfl, _, rfl, M2, _, _, vk, rfl, rfl, SqL.of (s1 _ _ eM2), atI_nat evk, _, rfl, by show 3 ≤ sizeLine; rw [sizeLine_eq]; omega, fun B1 nB => ⟨by show 1 ≤ sizeLine; rw [sizeLine_eq]; omega, fun C1 nC => ?_⟩⟩
                  have s2 := same_upd (o := .tup [.str "over", vk, g]) nB
                  have s3 := same_upd (o := .lst [.ref B1]) nC
                  refine ⟨A1, C1, _, _, rfl, rfl, (s2.trans s3) _ _ upd_same, upd_same, by rw [List.length_take, sizeLine_eq]; simp only [List.length_singleton]; omega, fun E1 nE => ?_⟩
                  have s4 := same_upd (o := .lst (ms2.take n ++ [.ref B1])) nE
                  have s14 := ((s1.trans s2).trans s3).trans s4
                  refine ⟨_, rfl, E1, M, _, _, rfl, rfl, upd_same, s14 _ _ eM, by rw [List.length_append, List.length_take, sizeLine_eq]; simp only [List.length_singleton]; omega, fun F1 nF => ?_⟩
                  have s5 := same_upd (o := .lst (ms2.take n ++ [.ref B1] ++ ms)) nF
                  refine ⟨_, rfl, _, rfl, _, _, rfl, rfl, _, rfl, M2, ms2, rfl, SqL.of ((s14.trans s5) _ _ eM2), fun G1 nG => ?_⟩
                  have ec : cutV ms2 (some ((n : Int) + 1)) none = ms2.drop (n + 1) := cutV_from (b := n + 1)
                  rw [ec]
                  have s6 := same_upd (o := .lst (ms2.drop (n + 1))) nG
                  refine ⟨F1, G1, _, _, rfl, rfl, s6 _ _ upd_same, upd_same, by simp only [List.length_append, List.length_take, List.length_drop, List.length_singleton]; rw [sizeLine_eq]; omega, fun N nN => ?_⟩
                  have s7 := same_upd (o := .lst (ms2.take n ++ [.ref B1] ++ ms ++ ms2.drop (n + 1))) nN
                  refine ⟨_, rfl, by show 2 ≤ sizeLine; rw [sizeLine_eq]; omega, fun q2 n2 => ?_⟩
                  have s8 := same_upd (o := .tup [.ref N, g2]) n2
                  have s16 := (s14.trans s5).trans s6
                  have s18 := (s16.trans s7).trans s8
                  refine k _ _ s18 ?_
                  have et : usedAt "over used" n (row, goal) (row2, goal2) = some (row2.take n ++ [.n .ov kd goal] ++ row ++ row2.drop (n + 1), goal2) := by
                    simp [usedAt, ek2]
                  rw [tl_of (.us (by decide) e0 e1 et)]
                  have tB := (((((s3.trans s4).trans s5).trans s6).trans s7).trans s8) _ _ (upd_same (a := B1) (o := .tup [.str "over", vk, g]))
                  exact ⟨q2, N, _, g2, rfl, s16.free nN, upd_same, s8 _ _ upd_same, (((hT2.take n).mono (TK.of_same s18)).append (.cons (.n tB (tvk.mono (TK.of_same s18)) (hg.mono (TK.of_same s18))) .nil)).append (hT.mono (TK.of_same s18)) |>.append ((hT2.drop (n + 1)).mono (TK.of_same s18)), hg2.mono (TK.of_same s18)⟩
theorem ok_tellUnderUsed {f : Addr} {fd : FuncData} (T : Top K mg "_tell_under_used" sTellUnderUsed pTellUnderUsed f fd) (B : Blt mg) : FnOk P w K mg base CX0 1 f fd pTellUnderUsed (spTeller "under used") := by
  refine T.F.ok scTellUnderUsed (fun vs H Q E h => ?_) (fun cdv A outer s H vs Q E hr h => ?_)
  · obtain ⟨_, _, _, _, _, rfl, _⟩ := h
    rfl
  · obtain ⟨x, r, L, us, rs, rfl, hd, f, eL, hp, hr2, hsm, k⟩ := h
    refine ⟨_, (pss_cons (ps_set (i := 2) scTellUnderUsed.nd rfl (Or.inl rfl) (pe_ix ix_tup (pv 0) pe_int (fun _ _ => rfl)))
      (pss_cons (ps_asg (pv 1) (pg_lst (by rfl) (pgs_cons (pg_tup (by rfl) (pgs_cons (pg_name (i := 3) scTellUnderUsed.nd rfl (Or.inl rfl)) (pgs_cons (pg_name (i := 4) scTellUnderUsed.nd rfl (Or.inl rfl)) pgs_nil)))
        (pgs_cons (pg_tup (by rfl) (pgs_cons (pg_name (i := 5) scTellUnderUsed.nd rfl (Or.inl rfl)) (pgs_cons (pg_name (i := 6) scTellUnderUsed.nd rfl (Or.inl rfl)) pgs_nil))) pgs_nil))))
      (pss_cons (ps_if (pt_cmpR op_ge (pv 2) (pe_callB call_len_seq (by rfl) B.len PySem.boot_len (pa_cons (pv 5) pa_nil)) (nomark _)) (pss_one (ps_ret pe_non)) pss_nil)
      (pss_one (ps_ret (pe_tup (pa_cons (pe_op op_cat (pe_op op_cat (pe_op op_cat (pe_slice sl_list (pv 5) po_none (po_some (pv 2))) (pv 3)) (pe_lst (pa_cons (pe_tup (pa_cons pe_str (pa_cons (pv 4) (pa_cons (pe_ix ix_list (pv 5) (pv 2) (fun _ _ => rfl)) pa_nil)))) pa_nil))) (pe_slice sl_list (pv 5) (po_some (pe_op op_add (pv 2) pe_int)) po_none)) (pa_cons (pv 6) pa_nil)))))))), ?_⟩
    obtain ⟨n, d1, d2, rfl⟩ := fm_uu f
    have epp : (D.t [.s "under used", .i n, d1, d2]).parts = [d1, d2] := by simp [D.parts]
    rw [epp] at hr2
    cases hp with
    | nil => exact absurd (congrArg List.length hr2) (by simp)
    | @cons v0 r0 us' rs' h0 hp' => cases hp' with
      | nil => exact absurd (congrArg List.length hr2) (by simp)
      | @cons v1 r1 us' rs' h1 hp' => cases hp' with
        | cons _ _ => exact absurd (congrArg List.length hr2) (by simp)
        | nil =>
          have e0 : d1.tl = some r0 := (List.cons.inj hr2).1
          have e1 : d2.tl = some r1 := (List.cons.inj (List.cons.inj hr2).2).1
          obtain ⟨row, goal⟩ := r0
          obtain ⟨row2, goal2⟩ := r1
          obtain ⟨p, M, ms, g, rfl, _, ep, eM, hT, hg⟩ := h0
          obtain ⟨p2, M2, ms2, g2, rfl, _, ep2, eM2, hT2, hg2⟩ := h1
          have hsm1 := hsm _ List.mem_cons_self
          have hsm2 := hsm _ (List.mem_cons_of_mem _ List.mem_cons_self)
          have lsm : row.length ≤ 4000 := hsm1.1
          have lsm2 : row2.length ≤ 4000 := hsm2.1
          have lT : ms.length = row.length := hT.length
          have lT2 : ms2.length = row2.length := hT2.length
          have hT : Tys H ms row := hT
          have hT2 : Tys H ms2 row2 := hT2
          have hg : TyAt H g goal := hg
          have hg2 : TyAt H g2 goal2 := hg2
          cases hd with
          | @t pk xs _ ek hk =>
            cases hk with
            | cons k0 hk => cases hk with
              | cons k1 hk =>
                cases k0
                cases k1
                refine ⟨_, rfl, pk, _, _, _, rfl, rfl, SqT.of ek, atI_nat (j := 1) rfl, ?_⟩
                refine ⟨_, rfl, L, _, rfl, SqL.of eL, rfl, _, _, rfl, ⟨p, _, rfl, SqT.of ep, rfl, _, _, rfl, _, _, rfl, rfl, _, _, rfl, ⟨p2, _, rfl, SqT.of ep2, rfl, _, _, rfl, _, _, rfl, rfl, rfl, ?_⟩⟩⟩
                refine ⟨_, rfl, _, rfl, M2, ms2, rfl, .inl (SqL.of eM2), _, _, rfl, rfl, _, rfl, ?_⟩
                by_cases c : row2.length ≤ n
                · rw [decide_eq_true (show (n : Int) ≥ (ms2.length : Int) by rw [lT2]; exact Int.ofNat_le.mpr c)]
                  refine iteT (k _ H (Same.refl H) ?_)
                  have et : (D.t [.s "under used", .i n, d1, d2]).tl = none := by
                    have e9 : row2[n]? = none := List.getElem?_eq_none c
                    simp [D.tl, tellOf, tlAll, e0, e1, both, placed, usedAt, e9]
                  rw [et]
                  rfl
                · rw [decide_eq_false (show ¬ (n : Int) ≥ (ms2.length : Int) by rw [lT2]; intro z; exact c (Int.ofNat_le.mp z))]
                  have ek2 : row2[n]? = some (row2[n]'(by omega)) := List.getElem?_eq_getElem (by omega)
                  generalize row2[n]'(by omega) = kd at ek2
                  obtain ⟨vk, evk, tvk⟩ := hT2.get ek2
                  refine iteF ⟨_, rfl, _, rfl, _, rfl, M2, ms2, rfl, SqL.of eM2, fun A1 nA => ?_⟩
                  rw [cutV_take]
                  have s1 := same_upd (o := .lst (ms2.take n)) nA
                  refine ⟨_, rfl, A1, M, _, _, rfl, rfl, upd_same, s1 _ _ eM, by rw [List.length_take, sizeLine_eq]; omega, fun E1 nE => ?_⟩
                  have s2 := same_upd (o := .lst (ms2.take n ++ ms)) nE
                  refine ⟨_, rfl, _, rfl, _, rfl, M2, _, _, vk, rfl, rfl, SqL.of ((s1.trans s2) _ _ eM2), atI_nat evk, by show 3 ≤ sizeLine; rw [sizeLine_eq]; omega, fun B1 nB => ⟨by show 1 ≤ sizeLine; rw [sizeLine_eq]; omega, fun C1 nC => ?_⟩⟩
                  have s3 := same_upd (o := .tup [.str "under", g, vk]) nB
                  have s4 := same_upd (o := .lst [.ref B1]) nC
                  have s14 := ((s1.trans s2).trans s3).trans s4
                  refine ⟨E1, C1, _, _, rfl, rfl, (s3.trans s4) _ _ upd_same, upd_same, by rw [List.length_append, List.length_take, sizeLine_eq]; simp only [List.length_singleton]; omega, fun F1 nF => ?_⟩
                  have s5 := same_upd (o := .lst (ms2.take n ++ ms ++ [.ref B1])) nF
                  refine ⟨_, rfl, _, rfl, _, _, rfl, rfl, _, rfl, M2, ms2, rfl, SqL.of ((s14.trans s5) _ _ eM2), fun G1 nG => ?_⟩
                  have ec : cutV ms2 (some ((n : Int) + 1)) none = ms2.drop (n + 1) := cutV_from (b := n + 1)
                  rw [ec]
                  have s6 := same_upd (o := .lst (ms2.drop (n + 1))) nG
                  refine ⟨F1, G1, _, _, rfl, rfl, s6 _ _ upd_same, upd_same, by simp only [List.length_append, List.length_take, List.length_drop, List.length_singleton]; rw [sizeLine_eq]; omega, fun N nN => ?_⟩
                  have s7 := same_upd (o := .lst (ms2.take n ++ ms ++ [.ref B1] ++ ms2.drop (n + 1))) nN
                  refine ⟨_, rfl, by show 2 ≤ sizeLine; rw [sizeLine_eq]; omega, fun q2 n2 => ?_⟩
                  have s8 := same_upd (o := .tup [.ref N, g2]) n2
                  have s16 := (s14.trans s5).trans s6
                  have s18 := (s16.trans s7).trans s8
                  refine k _ _ s18 ?_
                  have et : usedAt "under used" n (row, goal) (row2, goal2) = some (row2.take n ++ row ++ [.n .un goal kd] ++ row2.drop (n + 1), goal2) := by
                    simp [usedAt, ek2]
                  rw [tl_of (.us (by decide) e0 e1 et)]
                  have tB := (((((s4).trans s5).trans s6).trans s7).trans s8) _ _ (upd_same (a := B1) (o := .tup [.str "under", g, vk]))
                  exact ⟨q2, N, _, g2, rfl, s16.free nN, upd_same, s8 _ _ upd_same, (((hT2.take n).mono (TK.of_same s18)).append (hT.mono (TK.of_same s18))).append (.cons (.n tB (hg.mono (TK.of_same s18)) (tvk.mono (TK.of_same s18))) .nil) |>.append ((hT2.drop (n + 1)).mono (TK.of_same s18)), hg2.mono (TK.of_same s18)⟩
end
end S4

namespace S4
open PySem PySem.Spec PyProof.Rows L2 LamX KT
open PySem.W (Frag)
theorem hu64 {A : Around} {k : Nat} (hr : Room k A) : A.units + 64 < cLine := by have := hr.un; omega
theorem sg_inj : ∀ a b : Sg, PyData.eqv (.str a.str) (.str b.str) = decide (a = b) := by
  intro a b
  cases a <;> cases b <;> decide +kernel
theorem eqv_ty : ∀ a b : Ty, PyData.eqv a.d.py b.d.py = decide (a = b) := by
  intro a
  induction a with
  | w z =>
    intro b
    cases b with
    | w y =>
      simp only [Ty.d, D.py, PyData.eqv, Ty.w.injEq]
      rw [Bool.eq_iff_iff, beq_iff_eq, decide_eq_true_eq]
    | n g x y => simp [Ty.d, D.py, PyData.eqv]
  | n g x y i j =>
    intro b
    cases b with
    | w z => simp [Ty.d, D.py, PyData.eqv]
    | n h x' y' =>
      have e : PyData.eqv (Ty.n g x y).d.py (Ty.n h x' y').d.py = (PyData.eqv (.str g.str) (.str h.str) && (PyData.eqv x.d.py x'.d.py && (PyData.eqv y.d.py y'.d.py && true))) := by
        simp only [Ty.d, D.py, pyAll, PyData.eqv, PyData.eqvAll]
      rw [e, sg_inj, i, j]
      simp only [Ty.n.injEq, Bool.and_true]
      by_cases h1 : g = h <;> by_cases h2 : x = x' <;> by_cases h3 : y = y' <;> simp [h1, h2, h3]
section
variable {P : Program} {w : World} {K : Frag} {mg : Str → Option Value} {base : Heap}
theorem ok_tellCut {f : Addr} {fd : FuncData} (T : Top K mg "_tell_cut" sTellCut pTellCut f fd) (B : Blt mg) : FnOk P w K mg base CX0 1 f fd pTellCut (spTeller "cut") := by
  refine T.F.ok scTellCut (fun vs H Q E h => ?_) (fun cdv A outer s H vs Q E hr h => ?_)
  · obtain ⟨_, _, _, _, _, rfl, _⟩ := h
    rfl
  · obtain ⟨x, r, L, us, rs, rfl, hd, f, eL, hp, hr2, hsm, k⟩ := h
    refine ⟨_, (pss_cons (ps_set (i := 2) scTellCut.nd rfl (Or.inl rfl) (pe_ix ix_tup (pv 0) pe_int (fun _ _ => rfl)))
      (pss_cons (ps_asg (pv 1) (pg_lst (by rfl) (pgs_cons (pg_tup (by rfl) (pgs_cons (pg_name (i := 3) scTellCut.nd rfl (Or.inl rfl)) (pgs_cons (pg_name (i := 4) scTellCut.nd rfl (Or.inl rfl)) pgs_nil)))
        (pgs_cons (pg_tup (by rfl) (pgs_cons (pg_name (i := 5) scTellCut.nd rfl (Or.inl rfl)) (pgs_cons (pg_name (i := 6) scTellCut.nd rfl (Or.inl rfl)) pgs_nil))) pgs_nil))))
      (pss_cons (ps_if (PW.pt (pw_or (pt_cmpR op_ge (pv 2) (pe_callB call_len_seq (by rfl) B.len PySem.boot_len (pa_cons (pv 5) pa_nil)) (nomark _)) (pw_or1 (pt_cmpR (op_neD (hu64 hr)) (pe_ix ix_list (pv 5) (pv 2) (fun _ _ => rfl)) (pv 4) (nomark _))))) (pss_one (ps_ret pe_non)) pss_nil)
      (pss_one (ps_ret (pe_tup (pa_cons (pe_op op_cat (pe_op op_cat (pe_slice sl_list (pv 5) po_none (po_some (pv 2))) (pv 3)) (pe_slice sl_list (pv 5) (po_some (pe_op op_add (pv 2) pe_int)) po_none)) (pa_cons (pv 6) pa_nil)))))))), ?_⟩
    obtain ⟨n, d1, d2, rfl⟩ := fm_ct f
    have epp : (D.t [.s "cut", .i n, d1, d2]).parts = [d1, d2] := by simp [D.parts]
    rw [epp] at hr2
    cases hp with
    | nil => exact absurd (congrArg List.length hr2) (by simp)
    | @cons v0 r0 us' rs' h0 hp' => cases hp' with
      | nil => exact absurd (congrArg List.length hr2) (by simp)
      | @cons v1 r1 us' rs' h1 hp' => cases hp' with
        | cons _ _ => exact absurd (congrArg List.length hr2) (by simp)
        | nil =>
          have e0 : d1.tl = some r0 := (List.cons.inj hr2).1
          have e1 : d2.tl = some r1 := (List.cons.inj (List.cons.inj hr2).2).1
          obtain ⟨row, goal⟩ := r0
          obtain ⟨row2, goal2⟩ := r1
          obtain ⟨p, M, ms, g, rfl, _, ep, eM, hT, hg⟩ := h0
          obtain ⟨p2, M2, ms2, g2, rfl, _, ep2, eM2, hT2, hg2⟩ := h1
          have hsm1 := hsm _ List.mem_cons_self
          have hsm2 := hsm _ (List.mem_cons_of_mem _ List.mem_cons_self)
          have lsm : row.length ≤ 4000 := hsm1.1
          have lsm2 : row2.length ≤ 4000 := hsm2.1
          have lT : ms.length = row.length := hT.length
          have lT2 : ms2.length = row2.length := hT2.length
          have hT : Tys H ms row := hT
          have hT2 : Tys H ms2 row2 := hT2
          have hg : TyAt H g goal := hg
          have hg2 : TyAt H g2 goal2 := hg2
          cases hd with
          | @t pk xs _ ek hk =>
            cases hk with
            | cons k0 hk => cases hk with
              | cons k1 hk =>
                cases k0
                cases k1
                refine ⟨_, rfl, pk, _, _, _, rfl, rfl, SqT.of ek, atI_nat (j := 1) rfl, ?_⟩
                refine ⟨_, rfl, L, _, rfl, SqL.of eL, rfl, _, _, rfl, ⟨p, _, rfl, SqT.of ep, rfl, _, _, rfl, _, _, rfl, rfl, _, _, rfl, ⟨p2, _, rfl, SqT.of ep2, rfl, _, _, rfl, _, _, rfl, rfl, rfl, ?_⟩⟩⟩
                refine ⟨_, rfl, _, rfl, M2, ms2, rfl, .inl (SqL.of eM2), _, _, rfl, rfl, _, rfl, ?_⟩
                by_cases c : row2.length ≤ n
                · rw [decide_eq_true (show (n : Int) ≥ (ms2.length : Int) by rw [lT2]; exact Int.ofNat_le.mpr c)]
                  refine iteT (k _ H (Same.refl H) ?_)
                  have et : (D.t [.s "cut", .i n, d1, d2]).tl = none := by
                    have e9 : row2[n]? = none := List.getElem?_eq_none c
                    simp [D.tl, tellOf, tlAll, e0, e1, both, placed, usedAt, e9]
                  rw [et]
                  rfl
                · rw [decide_eq_false (show ¬ (n : Int) ≥ (ms2.length : Int) by rw [lT2]; intro z; exact c (Int.ofNat_le.mp z))]
                  have ek2 : row2[n]? = some (row2[n]'(by omega)) := List.getElem?_eq_getElem (by omega)
                  generalize row2[n]'(by omega) = kd at ek2
                  obtain ⟨vk, evk, tvk⟩ := hT2.get ek2
                  have dk := (DAt.py (K := K) tvk.d).1
                  have dg := (DAt.py (K := K) hg.d).1
                  refine iteF ⟨_, rfl, _, rfl, M2, _, _, vk, rfl, rfl, SqL.of eM2, atI_nat evk, _, rfl, kd.d.py, goal.d.py, dk, dg, DAt.shaped (K := K) tvk.d (by have := hsm2.2.1 kd (List.mem_of_getElem? ek2); omega), DAt.shaped (K := K) hg.d (by have q : goal.d.dep ≤ 60 := hsm1.2.2; omega), _, rfl, ?_⟩
                  rw [eqv_ty]
                  by_cases ce : kd = goal
                  · rw [decide_eq_true ce]
                    refine iteF ⟨_, rfl, _, rfl, _, rfl, M2, ms2, rfl, SqL.of eM2, fun A1 nA => ?_⟩
                    rw [cutV_take]
                    have s1 := same_upd (o := .lst (ms2.take n)) nA
                    refine ⟨_, rfl, A1, M, _, _, rfl, rfl, upd_same, s1 _ _ eM, by rw [List.length_take, sizeLine_eq]; omega, fun E1 nE => ?_⟩
                    have s2 := same_upd (o := .lst (ms2.take n ++ ms)) nE
                    have s14 := s1.trans s2
                    refine ⟨_, rfl, _, rfl, _, _, rfl, rfl, _, rfl, M2, ms2, rfl, SqL.of (s14 _ _ eM2), fun G1 nG => ?_⟩
                    have ec : cutV ms2 (some ((n : Int) + 1)) none = ms2.drop (n + 1) := cutV_from (b := n + 1)
                    rw [ec]
                    have s6 := same_upd (o := .lst (ms2.drop (n + 1))) nG
                    refine ⟨E1, G1, _, _, rfl, rfl, s6 _ _ upd_same, upd_same, by simp only [List.length_append, List.length_take, List.length_drop]; rw [sizeLine_eq]; omega, fun N nN => ?_⟩
                    have s7 := same_upd (o := .lst (ms2.take n ++ ms ++ ms2.drop (n + 1))) nN
                    refine ⟨_, rfl, by show 2 ≤ sizeLine; rw [sizeLine_eq]; omega, fun q2 n2 => ?_⟩
                    have s8 := same_upd (o := .tup [.ref N, g2]) n2
                    have s16 := s14.trans s6
                    have s18 := (s16.trans s7).trans s8
                    refine k _ _ s18 ?_
                    have et : usedAt "cut" n (row, goal) (row2, goal2) = some (row2.take n ++ row ++ row2.drop (n + 1), goal2) := by
                      simp [usedAt, ek2, ce]
                    rw [tl_of (.us (by decide) e0 e1 et)]
                    exact ⟨q2, N, _, g2, rfl, s16.free nN, upd_same, s8 _ _ upd_same, (((hT2.take n).mono (TK.of_same s18)).append (hT.mono (TK.of_same s18))).append ((hT2.drop (n + 1)).mono (TK.of_same s18)), hg2.mono (TK.of_same s18)⟩
                  · rw [decide_eq_false ce]
                    refine iteT (k _ H (Same.refl H) ?_)
                    have et : (D.t [.s "cut", .i n, d1, d2]).tl = none := by
                      simp [D.tl, tellOf, tlAll, e0, e1, both, placed, usedAt, ek2, ce]
                    rw [et]
                    rfl
theorem ok_tellThenUsed {f : Addr} {fd : FuncData} (T : Top K mg "_tell_then_used" sTellThenUsed pTellThenUsed f fd) (B : Blt mg) : FnOk P w K mg base CX0 1 f fd pTellThenUsed (spTeller "then used") := by
  refine T.F.ok scTellThenUsed (fun vs H Q E h => ?_) (fun cdv A outer s H vs Q E hr h => ?_)
  · obtain ⟨_, _, _, _, _, rfl, _⟩ := h
    rfl
  · obtain ⟨x, r, L, us, rs, rfl, hd, f, eL, hp, hr2, hsm, k⟩ := h
    refine ⟨_, (pss_cons (ps_set (i := 2) scTellThenUsed.nd rfl (Or.inl rfl) (pe_ix ix_tup (pv 0) pe_int (fun _ _ => rfl)))
      (pss_cons (ps_asg (pe_ix ix_list (pv 1) pe_int (fun _ _ => rfl)) (pg_tup (by rfl) (pgs_cons (pg_name (i := 3) scTellThenUsed.nd rfl (Or.inl rfl)) (pgs_cons (pg_name (i := 4) scTellThenUsed.nd rfl (Or.inl rfl)) pgs_nil))))
      (pss_cons (ps_if (pt_cmpR op_ge (pe_op op_add (pv 2) pe_int) (pe_callB call_len_seq (by rfl) B.len PySem.boot_len (pa_cons (pv 3) pa_nil)) (nomark _)) (pss_one (ps_ret pe_non)) pss_nil)
      (pss_one (ps_ret (pe_tup (pa_cons (pe_op op_cat (pe_op op_cat (pe_slice sl_list (pv 3) po_none (po_some (pv 2))) (pe_lst (pa_cons (pe_tup (pa_cons pe_str (pa_cons (pe_ix ix_list (pv 3) (pv 2) (fun _ _ => rfl)) (pa_cons (pe_ix ix_list (pv 3) (pe_op op_add (pv 2) pe_int) (fun _ _ => rfl)) pa_nil)))) pa_nil))) (pe_slice sl_list (pv 3) (po_some (pe_op op_add (pv 2) pe_int)) po_none)) (pa_cons (pv 4) pa_nil)))))))), ?_⟩
    obtain ⟨n, d1, rfl⟩ := fm_tu f
    have epp : (D.t [.s "then used", .i n, d1]).parts = [d1] := by simp [D.parts]
    rw [epp] at hr2
    cases hp with
    | nil => exact absurd (congrArg List.length hr2) (by simp)
    | @cons v0 r0 us' rs' h0 hp' =>
      have e0 : d1.tl = some r0 := (List.cons.inj hr2).1
      obtain ⟨row, goal⟩ := r0
      obtain ⟨p, M, ms, g, rfl, _, ep, eM, hT, hg⟩ := h0
      have lsm : row.length ≤ 4000 := (hsm _ List.mem_cons_self).1
      have lT : ms.length = row.length := hT.length
      have hT : Tys H ms row := hT
      have hg : TyAt H g goal := hg
      cases hd with
      | @t pk xs _ ek hk =>
        cases hk with
        | cons k0 hk => cases hk with
          | cons k1 hk =>
            cases k0
            cases k1
            refine ⟨_, rfl, pk, _, _, _, rfl, rfl, SqT.of ek, atI_nat (j := 1) rfl, ?_⟩
            refine ⟨_, rfl, L, _, _, _, rfl, rfl, SqL.of eL, atI_nat (j := 0) rfl, p, _, rfl, SqT.of ep, rfl, _, _, rfl, _, _, rfl, rfl, ?_⟩
            refine ⟨_, rfl, _, _, rfl, rfl, _, rfl, M, ms, rfl, .inl (SqL.of eM), _, _, rfl, rfl, _, rfl, ?_⟩
            by_cases c : row.length ≤ n + 1
            · rw [decide_eq_true (show (n : Int) + 1 ≥ (ms.length : Int) by rw [lT]; exact Int.ofNat_le.mpr c)]
              refine iteT (k _ H (Same.refl H) ?_)
              have et : (D.t [.s "then used", .i n, d1]).tl = none := by
                have e9 : row[n + 1]? = none := List.getElem?_eq_none c
                have e8 : thenU n (row, goal) = none := by
                  unfold thenU
                  rw [if_pos (by omega)]
                  show (match row[n]?, row[n + 1]? with | some a, some b => _ | _, _ => none) = none
                  rw [e9]
                  cases row[n]? <;> rfl
                simp [D.tl, tellOf, tlAll, e0, e8]
              rw [et]
              rfl
            · rw [decide_eq_false (show ¬ (n : Int) + 1 ≥ (ms.length : Int) by rw [lT]; intro z; exact c (Int.ofNat_le.mp z))]
              have ek1 : row[n]? = some (row[n]'(by omega)) := List.getElem?_eq_getElem (by omega)
              have ek2 : row[n + 1]? = some (row[n + 1]'(by omega)) := List.getElem?_eq_getElem (by omega)
              generalize row[n]'(by omega) = ka at ek1
              generalize row[n + 1]'(by omega) = kb at ek2
              obtain ⟨va, eva, tva⟩ := hT.get ek1
              obtain ⟨vb, evb, tvb⟩ := hT.get ek2
              refine iteF ⟨_, rfl, _, rfl, _, rfl, M, ms, rfl, SqL.of eM, fun A1 nA => ?_⟩
              rw [cutV_take]
              have s1 := same_upd (o := .lst (ms.take n)) nA
              have eix : ((n : Int) + 1) = ((n + 1 : Nat) : Int) := by omega
              refine ⟨_, rfl, _, rfl, M, _, _, va, rfl, rfl, SqL.of (s1 _ _ eM), atI_nat eva, _, rfl, _, rfl, _, _, rfl, rfl, M, _, _, vb, rfl, rfl, SqL.of (s1 _ _ eM), by rw [eix]; exact atI_nat evb, by show 3 ≤ sizeLine; rw [sizeLine_eq]; omega, fun B1 nB => ⟨by show 1 ≤ sizeLine; rw [sizeLine_eq]; omega, fun C1 nC => ?_⟩⟩
              have s2 := same_upd (o := .tup [.str "then", va, vb]) nB
              have s3 := same_upd (o := .lst [.ref B1]) nC
              refine ⟨A1, C1, _, _, rfl, rfl, (s2.trans s3) _ _ upd_same, upd_same, by rw [List.length_take, sizeLine_eq]; simp only [List.length_singleton]; omega, fun F1 nF => ?_⟩
              have s5 := same_upd (o := .lst (ms.take n ++ [.ref B1])) nF
              have s15 := ((s1.trans s2).trans s3).trans s5
              refine ⟨_, rfl, _, rfl, _, _, rfl, rfl, _, rfl, M, ms, rfl, SqL.of (s15 _ _ eM), fun G1 nG => ?_⟩
              have ec : cutV ms (some ((n : Int) + 2)) none = ms.drop (n + 2) := cutV_from (b := n + 2)
              rw [ec]
              have s6 := same_upd (o := .lst (ms.drop (n + 2))) nG
              refine ⟨F1, G1, _, _, rfl, rfl, s6 _ _ upd_same, upd_same, by simp only [List.length_append, List.length_take, List.length_drop, List.length_singleton]; rw [sizeLine_eq]; omega, fun N nN => ?_⟩
              have s7 := same_upd (o := .lst (ms.take n ++ [.ref B1] ++ ms.drop (n + 2))) nN
              refine ⟨_, rfl, by show 2 ≤ sizeLine; rw [sizeLine_eq]; omega, fun q2 n2 => ?_⟩
              have s8 := same_upd (o := .tup [.ref N, g]) n2
              have s16 := s15.trans s6
              have s18 := (s16.trans s7).trans s8
              refine k _ _ s18 ?_
              have et : thenU n (row, goal) = some (row.take n ++ [.n .th ka kb] ++ row.drop (n + 2), goal) := by
                unfold thenU
                rw [if_pos (by omega)]
                show (match row[n]?, row[n + 1]? with | some a, some b => _ | _, _ => none) = _
                rw [ek1, ek2]
                rfl
              rw [tl_of (.tu e0 et)]
              have tB := ((((s3.trans s5).trans s6).trans s7).trans s8) _ _ (upd_same (a := B1) (o := .tup [.str "then", va, vb]))
              exact ⟨q2, N, _, g, rfl, s16.free nN, upd_same, s8 _ _ upd_same, (((hT.take n).mono (TK.of_same s18)).append (.cons (.n tB (tva.mono (TK.of_same s18)) (tvb.mono (TK.of_same s18))) .nil)).append ((hT.drop (n + 2)).mono (TK.of_same s18)), hg.mono (TK.of_same s18)⟩
end
end S4

namespace S4
open PySem PySem.Spec PyProof.Rows L2 LamX KT
open PySem.W (Frag)
/-- a telling as data -/
def tpy : Option Told → PyData
  | none => .none
  | some r => .tuple [.list (r.1.map fun t => t.d.py), r.2.d.py]
theorem depAll_py (l : List PyData) (n : Nat) (h : ∀ x ∈ l, x.depth ≤ n) : PyData.depthAll l ≤ n := by
  induction l with
  | nil => simp [PyData.depthAll]
  | cons a r ih =>
    simp only [PyData.depthAll]
    have := h a List.mem_cons_self
    have := ih fun x hx => h x (List.mem_cons_of_mem _ hx)
    omega
theorem canAll_py (l : List PyData) (h : ∀ x ∈ l, x.canLay0 = true) : PyData.canLayAll0 l = true := by
  induction l with
  | nil => simp [PyData.canLayAll0]
  | cons a r ih =>
    simp only [PyData.canLayAll0]
    rw [h a List.mem_cons_self, ih fun x hx => h x (List.mem_cons_of_mem _ hx)]
    rfl
theorem tys_dp {K : Frag} {H : Hp} {us : List V} {ts : List Ty} (h : Tys H us ts) : DpAll K H us (ts.map fun t => t.d.py) ∧ ∀ x ∈ ts.map (fun t => t.d.py), x.canLay0 = true := by
  induction h with
  | nil => exact ⟨.nil, fun x hx => by cases hx⟩
  | cons h _ ih =>
    obtain ⟨h1, h2, _⟩ := DAt.py (K := K) h.d
    refine ⟨.cons h1 ih.1, fun x hx => ?_⟩
    rcases List.mem_cons.mp hx with e | hx
    · rw [e]; exact h2
    · exact ih.2 x hx
theorem dep_py (t : Ty) : t.d.py.depth = t.d.dep := by
  induction t with
  | w z => simp [Ty.d, D.py, PyData.depth, D.dep]
  | n g a b i j => simp [Ty.d, D.py, pyAll, PyData.depth, PyData.depthAll, D.dep, depAll, i, j]
theorem Res.dp {K : Frag} {ok : Addr → Prop} {H : Hp} {v : V} {o : Option Told} (h : Res ok H v o) (hs : ∀ r, o = some r → Small r) : Dp K H v (tpy o) ∧ (tpy o).canLay0 = true ∧ (tpy o).depth ≤ 62 := by
  cases o with
  | none =>
    obtain rfl : v = .non := h
    exact ⟨.non, by simp [tpy, PyData.canLay0], by simp [tpy, PyData.depth]⟩
  | some r =>
    obtain ⟨p, L, us, g, rfl, _, ep, eL, hT, hg⟩ := h
    obtain ⟨s1, s2, s3⟩ := hs r rfl
    obtain ⟨a1, a2⟩ := tys_dp (K := K) hT
    obtain ⟨b1, b2, _⟩ := DAt.py (K := K) hg.d
    refine ⟨.tup (SqT.of ep) (.cons (.lst (SqL.of eL) a1) (.cons b1 .nil)), ?_, ?_⟩
    · simp only [tpy, PyData.canLay0, PyData.canLayAll0, canAll_py _ a2, b2, Bool.and_self]
    · have q := depAll_py (r.1.map fun t => t.d.py) 60 fun x hx => by
        obtain ⟨t, ht, rfl⟩ := List.mem_map.mp hx
        rw [dep_py]
        exact s2 t ht
      have q2 : r.2.d.py.depth ≤ 60 := by rw [dep_py]; exact s3
      simp only [tpy, PyData.depth, PyData.depthAll]
      omega
theorem ress_dp {K : Frag} {ok : Addr → Prop} {H : Hp} {us : List V} {os : List (Option Told)} (h : Paired (Res ok H) us os) (hs : ∀ o ∈ os, ∀ r, o = some r → Small r) : DpAll K H us (os.map tpy) ∧ (∀ x ∈ os.map tpy, x.canLay0 = true) ∧ ∀ x ∈ os.map tpy, x.depth ≤ 62 := by
  induction h with
  | nil => exact ⟨.nil, (fun x hx => by cases hx), (fun x hx => by cases hx)⟩
  | cons h _ ih =>
    obtain ⟨a1, a2, a3⟩ := Res.dp (K := K) h (hs _ List.mem_cons_self)
    obtain ⟨b1, b2, b3⟩ := ih fun o ho => hs o (List.mem_cons_of_mem _ ho)
    refine ⟨.cons a1 b1, fun x hx => ?_, fun x hx => ?_⟩
    · rcases List.mem_cons.mp hx with e | hx
      · rw [e]; exact a2
      · exact b2 x hx
    · rcases List.mem_cons.mp hx with e | hx
      · rw [e]; exact a3
      · exact b3 x hx
theorem none_in (os : List (Option Told)) : ((os.map tpy).any fun z => PyData.eqv z .none) = os.any Option.isNone := by
  rw [List.any_map]
  congr 1
  funext o
  cases o with
  | none => simp [tpy, PyData.eqv]
  | some r => simp [tpy, PyData.eqv]
/-- the parts of what tells something tell something -/
theorem tl_parts {u : D} {r : Told} (h : u.tl = some r) : ∀ p ∈ u.parts, p.tl.isSome = true := by
  cases tl_inv h with
  | is hk => intro p hp; simp [D.parts] at hp
  | om h1 h2 => intro p hp; simp [D.parts] at hp; rw [hp, h1]; rfl
  | um h1 h2 => intro p hp; simp [D.parts] at hp; rw [hp, h1]; rfl
  | tm h1 h2 =>
    intro p hp
    simp [D.parts] at hp
    rcases hp with e | e
    · rw [e, h1]; rfl
    · rw [e, h2]; rfl
  | tu h1 h2 => intro p hp; simp [D.parts] at hp; rw [hp, h1]; rfl
  | us c h1 h2 h3 =>
    intro p hp
    simp [D.parts] at hp
    rcases hp with e | e
    · rw [e, h1]; rfl
    · rw [e, h2]; rfl
theorem all_some {ok : Addr → Prop} {H : Hp} {us : List V} {os : List (Option Told)} (h : Paired (Res ok H) us os) (ha : os.any Option.isNone = false) : ∃ rs : List Told, os = rs.map some ∧ Paired (fun v r => Res ok H v (some r)) us rs := by
  induction h with
  | nil => exact ⟨[], rfl, .nil⟩
  | @cons v o us os h _ ih =>
    rw [List.any_cons, Bool.or_eq_false_iff] at ha
    obtain ⟨rs, e, hp⟩ := ih ha.2
    cases o with
    | none => cases ha.1
    | some r => exact ⟨r :: rs, by rw [e]; rfl, .cons h hp⟩
/-- the tellers by name -/
structure Gt5 (K : Frag) (w : World) (mg : Str → Option Value) (f1 f2 f3 f4 f5 f6 f7 f8 : Addr) : Prop where
  ex : ∃ dt, mg "_TELLERS" = some (.ref dt) ∧ KDct K w dt "is" (.ref f1) ∧ KDct K w dt "over made" (.ref f2) ∧ KDct K w dt "under made" (.ref f3) ∧ KDct K w dt "then made" (.ref f4) ∧ KDct K w dt "over used" (.ref f5) ∧ KDct K w dt "under used" (.ref f6) ∧ KDct K w dt "then used" (.ref f7) ∧ KDct K w dt "cut" (.ref f8)
section
variable {P : Program} {w : World} {K : Frag} {mg : Str → Option Value} {base : Heap}
theorem ok_tell {f f1 f2 f3 f4 f5 f6 f7 f8 : Addr} {fd d1 d2 d3 d4 d5 d6 d7 d8 : FuncData} (T : Top K mg "_tell" sTell pTell f fd) (G : Gt5 K w mg f1 f2 f3 f4 f5 f6 f7 f8)
    (T1 : Top K mg "_tell_is" sTellIs pTellIs f1 d1) (T2 : Top K mg "_tell_over_made" sTellOverMade pTellOverMade f2 d2) (T3 : Top K mg "_tell_under_made" sTellUnderMade pTellUnderMade f3 d3) (T4 : Top K mg "_tell_then_made" sTellThenMade pTellThenMade f4 d4)
    (T5 : Top K mg "_tell_over_used" sTellOverUsed pTellOverUsed f5 d5) (T6 : Top K mg "_tell_under_used" sTellUnderUsed pTellUnderUsed f6 d6) (T7 : Top K mg "_tell_then_used" sTellThenUsed pTellThenUsed f7 d7) (T8 : Top K mg "_tell_cut" sTellCut pTellCut f8 d8) (B : Blt mg) :
    FnOk P w K mg base CX0 2 f fd pTell spNodeK := by
  obtain ⟨dt, gt, k1, k2, k3, k4, k5, k6, k7, k8⟩ := G.ex
  refine T.F.ok scTell (fun vs H Q E h => ?_) (fun cdv A outer s H vs Q E hr h => ?_)
  · obtain ⟨_, _, _, _, rfl, _⟩ := h
    rfl
  · obtain ⟨x, u, L, us, rfl, hd, hdp, f0, eL, hp, hsm, k⟩ := h
    obtain ⟨a1, a2, a3⟩ := ress_dp (K := K) hp hsm
    have key : ∀ (nm : Str) (fx : Addr) (fdx : FuncData) (GX : FnOk P w K mg base CX0 1 fx fdx ["knot", "told"] (spTeller nm)) (hk : PySem.W.keepIn K (.ref fx) = true) (bx : L2.Binds K fdx ["knot", "told"] []) (kd : KDct K w dt nm (.ref fx)) (r : List D), u = .t (.s nm :: r) →
        ∃ t, PSs (cxOf CX0 P w K mg base nTell "_tell" (defScope sTell) f cdv A outer s H E).nox (defBody sTell) t ∧ t { nx := fun _ H' => Q .non H', rt := Q } (start nTell [x, .ref L]) H := by
      intro nm fx fdx GX hk bx kd r hu
      subst hu
      refine ⟨_, (pss_cons (ps_if (pt_cmpR (op_inD (hu65 hr)) pe_non (pv 1) (by rfl)) (pss_one (ps_ret pe_non)) pss_nil)
      (pss_cons (ps_set (i := 2) scTell.nd rfl (Or.inl rfl) (pe_ix ix_kdict (pe_glob (v := .ref dt) rfl gt rfl) (pe_ix ix_tup (pv 0) pe_int (fun _ _ => rfl)) (fun _ _ => rfl)))
      (pss_one (ps_ret (pe_callL (i := 2) (f := fx) GX hr rfl (.inl rfl) hk bx .nil pass0 (pa_cons (pv 0) (pa_cons (pv 1) pa_nil))))))), ?_⟩
      refine ⟨_, rfl, .none, _, .non, .lst (SqL.of eL) a1, by decide +kernel, ?_, _, rfl, ?_⟩
      · unfold SeqAt.shaped
        have q := depAll_py _ 62 a3
        simp only [PyData.canLay0, PyData.depth, canAll_py _ a2, Bool.true_and]
        exact decide_eq_true (by omega)
      · rw [none_in]
        cases ha : (List.map D.tl (D.t (.s nm :: r)).parts).any Option.isNone with
        | true =>
          refine iteT (k _ H (Same.refl H) ?_)
          have et : (D.t (.s nm :: r)).tl = none := by
            cases ee : (D.t (.s nm :: r)).tl with
            | none => rfl
            | some r0 =>
              obtain ⟨o, ho, hn⟩ := List.any_eq_true.mp ha
              obtain ⟨p, hp', rfl⟩ := List.mem_map.mp ho
              have := tl_parts ee p hp'
              cases hq : p.tl with
              | none => rw [hq] at this; cases this
              | some _ => rw [hq] at hn; cases hn
          rw [et]
          rfl
        | false =>
          obtain ⟨rs, er, hp'⟩ := all_some hp ha
          cases hd with
          | @t pk xs _ ek hk2 =>
            cases hk2 with
            | cons h0 hk2 =>
              cases h0
              refine iteF ⟨_, rfl, pk, _, _, _, rfl, rfl, SqT.of ek, atI_nat (j := 0) rfl, dt, nm, .ref fx, rfl, rfl, kd, ?_⟩
              refine ⟨rfl, _, rfl, _, rfl, .ref pk, r, L, us, rs, rfl, .t ek (.cons (.s (by assumption)) hk2), f0, eL, hp', er, fun r' hr' => hsm (some r') (by rw [er]; exact List.mem_map.mpr ⟨r', hr', rfl⟩) r' rfl, k⟩
    cases f0 with
    | is h => exact key _ f1 d1 (ok_tellIs T1) T1.F.kp T1.b k1 _ rfl
    | om => exact key _ f2 d2 (ok_tellOm T2 B) T2.F.kp T2.b k2 _ rfl
    | um => exact key _ f3 d3 (ok_tellUm T3 B) T3.F.kp T3.b k3 _ rfl
    | tm => exact key _ f4 d4 (ok_tellTm T4 B) T4.F.kp T4.b k4 _ rfl
    | tu h => exact key _ f7 d7 (ok_tellThenUsed T7 B) T7.F.kp T7.b k7 _ rfl
    | ou h => exact key _ f5 d5 (ok_tellOverUsed T5 B) T5.F.kp T5.b k5 _ rfl
    | uu h => exact key _ f6 d6 (ok_tellUnderUsed T6 B) T6.F.kp T6.b k6 _ rfl
    | ct h => exact key _ f8 d8 (ok_tellCut T8 B) T8.F.kp T8.b k8 _ rfl
end
end S4

namespace S4
open PySem PySem.Spec PyProof.Rows L2 LamX KT
open PySem.W (Frag)
theorem tl_none {d : D} (h : d.allK = false) : d.tl = none := by
  cases e : d.tl with
  | none => rfl
  | some r =>
    rw [tl_allK d.size d r (Nat.le_refl _) e] at h
    cases h
theorem tl_small {d : D} {r : Told} (h : d.tl = some r) (hz : d.size ≤ 4000) (hd : d.dep ≤ 60) : Small r := (tl_bd d.size d r (Nat.le_refl _) h).small hz hd
theorem eqvAll_ty : ∀ l r : List Ty, PyData.eqvAll (l.map fun t => t.d.py) (r.map fun t => t.d.py) = decide (l = r)
  | [], [] => by simp [PyData.eqvAll]
  | [], _ :: _ => by simp [PyData.eqvAll]
  | _ :: _, [] => by simp [PyData.eqvAll]
  | a :: l, b :: r => by
    simp only [List.map_cons, PyData.eqvAll, eqv_ty, eqvAll_ty l r, List.cons.injEq]
    by_cases h1 : a = b <;> by_cases h2 : l = r <;> simp [h1, h2]
theorem eqv_tpy (o : Option Told) (r : Told) : PyData.eqv (tpy o) (tpy (some r)) = decide (o = some r) := by
  cases o with
  | none => simp [tpy, PyData.eqv]
  | some q =>
    obtain ⟨a, b⟩ := q
    obtain ⟨c, d⟩ := r
    simp only [tpy, PyData.eqv, PyData.eqvAll, eqvAll_ty, eqv_ty, Option.some.injEq, Prod.mk.injEq]
    by_cases h1 : a = c <;> by_cases h2 : b = d <;> simp [h1, h2]
section
variable {P : Program} {w : World} {K : Frag} {mg : Str → Option Value} {base : Heap}
def spFold (ft : Addr) : Sp := fun vs H Q _ => ∃ v d, vs = [v, .ref ft] ∧ DAt H v d ∧ d.allK = true ∧ d.size ≤ 4000 ∧ d.dep ≤ 60 ∧ ∀ v' H', Same H H' → Res (fun L => H L = none) H' v' d.tl → Q v' H'
theorem ok_fold {f fi fp ft : Addr} {fd fdi fdp : FuncData} (T : Top K mg "folded_knots" sFoldedKnots pFoldedKnots f fd) (TI : Top K mg "from_inside" sFromInside pFromInside fi fdi) (TP : Top K mg "parts_of_knot" sPartsOfKnot pPartsOfKnot fp fdp)
    (GI : FnOk P w K mg base CX0 4 fi fdi pFromInside (spFIK fp ft)) : FnOk P w K mg base CX0 5 f fd pFoldedKnots (spFold ft) := by
  refine T.F.ok scFoldedKnots (fun vs H Q E h => ?_) (fun cdv A outer s H vs Q E hr h => ?_)
  · obtain ⟨_, _, rfl, _⟩ := h
    rfl
  · obtain ⟨v, d, rfl, hd, ha, hz, hdp, k⟩ := h
    refine ⟨_, pss_one (ps_ret (pe_call GI hr rfl TI.g TI.F.kp TI.b .nil pass0 (pa_cons (pv 0) (pa_cons (pe_glob (v := .ref fp) rfl TP.g rfl) (pa_cons (pv 1) pa_nil))))), ?_⟩
    refine ⟨v, rfl, _, rfl, v, d, rfl, hd, ha, hz, hdp, fun u hu => ?_, k⟩
    obtain ⟨b1, b2⟩ := nodes_bd d.size d (Nat.le_refl _) ha u hu
    exact ⟨by omega, fun r hr => tl_small hr (by omega) (by omega)⟩
def spTelling : Sp := fun vs H Q _ => ∃ v d, vs = [v] ∧ DAt H v d ∧ d.size ≤ 4000 ∧ d.dep ≤ 60 ∧ ∀ v' H', Same H H' → Res (fun L => H L = none) H' v' d.tl → Q v' H'
theorem ok_telling {f ff fa ft : Addr} {fd fdf fda fdt : FuncData} (T : Top K mg "telling_of" sTellingOf pTellingOf f fd) (TF : Top K mg "folded_knots" sFoldedKnots pFoldedKnots ff fdf) (TA : Top K mg "_are_all_knots" sAreAllKnots pAreAllKnots fa fda) (TT : Top K mg "_tell" sTell pTell ft fdt)
    (GF : FnOk P w K mg base CX0 5 ff fdf pFoldedKnots (spFold ft)) (GA : FnOk P w K mg base CX0 4 fa fda pAreAllKnots spAllKnots) : FnOk P w K mg base CX0 6 f fd pTellingOf spTelling := by
  refine T.F.ok scTellingOf (fun vs H Q E h => ?_) (fun cdv A outer s H vs Q E hr h => ?_)
  · obtain ⟨_, _, rfl, _⟩ := h
    rfl
  · obtain ⟨v, d, rfl, hd, hz, hdp, k⟩ := h
    have hr4 : Room 4 _ := hr.mono (by decide)
    refine ⟨_, pss_one (ps_ret (pe_ifExp (pt_val (pe_call GA hr4 rfl TA.g TA.F.kp TA.b .nil pass0 (pa_cons (pv 0) pa_nil))) (pe_call GF hr rfl TF.g TF.F.kp TF.b .nil pass0 (pa_cons (pv 0) (pa_cons (pe_glob (v := .ref ft) rfl TT.g rfl) pa_nil))) pe_non)), ?_⟩
    refine ⟨v, rfl, v, d, rfl, hd, hdp, by omega, fun H1 s1 => ⟨_, rfl, ?_⟩⟩
    cases ha : d.allK with
    | true => exact iteT ⟨v, rfl, v, d, rfl, hd.mono (TK.of_same s1), ha, hz, hdp, fun v' H' s' r' => k v' H' (s1.trans s') (r'.same (fun M nM => s1.free nM) (Same.refl H'))⟩
    | false =>
      rw [tl_none ha] at k
      exact iteF (k .non H1 s1 rfl)
def spIsDer : Sp := fun vs H Q _ => ∃ v d, vs = [v] ∧ DAt H v d ∧ d.size ≤ 4000 ∧ d.dep ≤ 60 ∧ ∀ H', Same H H' → Q (.bl d.tl.isSome) H'
theorem Res.isnon {ok : Addr → Prop} {H : Hp} {v : V} {o : Option Told} (h : Res ok H v o) : decide (v = .non) = o.isNone := by
  cases o with
  | none =>
    obtain rfl : v = .non := h
    rfl
  | some r =>
    obtain ⟨p, L, us, g, rfl, _⟩ := h
    rfl
def spToldBy : Sp := fun vs H Q _ => ∃ v d r, vs = [v] ∧ DAt H v d ∧ d.size ≤ 4000 ∧ d.dep ≤ 60 ∧ d.tl = some r ∧ ∀ v' H', Same H H' → Res (fun L => H L = none) H' v' (some r) → Q v' H'
theorem ok_toldBy {f fg : Addr} {fd fdg : FuncData} (T : Top K mg "told_by" sToldBy pToldBy f fd) (TG : Top K mg "telling_of" sTellingOf pTellingOf fg fdg) (GG : FnOk P w K mg base CX0 6 fg fdg pTellingOf spTelling) : FnOk P w K mg base CX0 7 f fd pToldBy spToldBy := by
  refine T.F.ok scToldBy (fun vs H Q E h => ?_) (fun cdv A outer s H vs Q E hr h => ?_)
  · obtain ⟨_, _, _, rfl, _⟩ := h
    rfl
  · obtain ⟨v, d, r, rfl, hd, hz, hdp, e, k⟩ := h
    refine ⟨_, (pss_cons (ps_set (i := 1) scToldBy.nd rfl (Or.inl rfl) (pe_call GG hr rfl TG.g TG.F.kp TG.b .nil pass0 (pa_cons (pv 0) pa_nil)))
      (pss_cons (ps_if (pt_cmpR op_isN (pv 1) pe_non (nomark _)) pss_never pss_nil)
      (pss_one (ps_ret (pv 1))))), ?_⟩
    refine ⟨v, rfl, v, d, rfl, hd, hz, hdp, fun v' H' s' r' => ⟨_, rfl, rfl, _, rfl, ?_⟩⟩
    rw [r'.isnon, e]
    rw [e] at r'
    exact iteF ⟨_, rfl, k v' H' s' r'⟩
def spCheckDer : Sp := fun vs H Q _ => ∃ v d, vs = [v] ∧ DAt H v d ∧ d.size ≤ 4000 ∧ d.dep ≤ 60 ∧ d.tl.isSome = true ∧ ∀ H', Same H H' → Q .non H'
def spKnotsIn : Sp := fun vs H Q _ => ∃ v d, vs = [v] ∧ DAt H v d ∧ d.allK = true ∧ d.size ≤ 1000000 ∧ ∀ (L : Addr) (us : List V) (H' : Hp), Same H H' → H L = none → H' L = some (.lst us) → DsAt H' us d.nodes → Q (.ref L) H'
def spKnotsOf : Sp := fun vs H Q _ => ∃ v d, vs = [v] ∧ DAt H v d ∧ d.size ≤ 4000 ∧ d.dep ≤ 60 ∧ d.tl.isSome = true ∧ ∀ H', Same H H' → Q (.int (d.nodes.length : Nat)) H'
def spCheckKindT : Sp := fun vs H Q _ => ∃ v t, vs = [v] ∧ TyAt H v t ∧ t.d.dep ≤ 60 ∧ t.d.size ≤ 1000000 ∧ ∀ H', Same H H' → Q .non H'
theorem isKd_d {t : Ty} (h : t.wok) : t.d.isKd = true := by
  unfold D.isKd
  rw [t.ty_d h]
  rfl
theorem ok_checkKindT {f fi : Addr} {fd fdi : FuncData} (T : Top K mg "check_kind" sCheckKind pCheckKind f fd) (TI : Top K mg "is_kind" sIsKind pIsKind fi fdi) (GI : FnOk P w K mg base CX0 2 fi fdi pIsKind spIsKindD) : FnOk P w K mg base CX0 3 f fd pCheckKind spCheckKindT := by
  refine T.F.ok scCheckKind (fun vs H Q E h => ?_) (fun cdv A outer s H vs Q E hr h => ?_)
  · obtain ⟨_, _, rfl, _⟩ := h
    rfl
  · obtain ⟨v, t, rfl, ht, hd, hz, k⟩ := h
    refine ⟨_, pss_one (ps_if (pt_not (pt_val (pe_call GI hr rfl TI.g TI.F.kp TI.b .nil pass0 (pa_cons (pv 0) pa_nil)))) pss_never pss_nil), ?_⟩
    refine ⟨v, rfl, v, t.d, rfl, ht.d, hd, hz, fun H' s' => ⟨_, rfl, ?_⟩⟩
    rw [isKd_d ht.wok]
    exact iteF (k H' s')
/-- a row -/
def RowAt (H : Hp) (L : Addr) (ts : List Ty) : Prop := ∃ us, H L = some (.lst us) ∧ Tys H us ts
def RowOk (ts : List Ty) : Prop := ts.length ≤ 4000 ∧ ∀ t ∈ ts, t.d.dep ≤ 60 ∧ t.d.size ≤ 1000000
def spAreKinds : Sp := fun vs H Q _ => ∃ L ts, vs = [.ref L] ∧ RowAt H L ts ∧ RowOk ts ∧ ∀ H', Same H H' → Q (.bl true) H'
theorem ok_areKinds {f fi : Addr} {fd fdi : FuncData} (T : Top K mg "are_kinds" sAreKinds pAreKinds f fd) (TI : Top K mg "is_kind" sIsKind pIsKind fi fdi) (GI : FnOk P w K mg base CX0 2 fi fdi pIsKind spIsKindD) (B : Blt mg) : FnOk P w K mg base CX0 3 f fd pAreKinds spAreKinds := by
  refine T.F.ok scAreKinds (fun vs H Q E h => ?_) (fun cdv A outer s H vs Q E hr h => ?_)
  · obtain ⟨_, _, rfl, _⟩ := h
    rfl
  · obtain ⟨L, ts, rfl, ⟨us, eL, hT⟩, ho, k⟩ := h
    refine ⟨_, pss_one (ps_ret (pe_and (pe_callB call_isi (by rfl) B.isi (by decide +kernel) (pa_cons (pv 0) (pa_cons (pe_bltn (v := .ty "list") (by rfl) B.list (by decide +kernel) rfl) pa_nil))) (pe_one (pe_callB (cr_all rfl) (by rfl) B.all (by decide +kernel) (pa_cons (pe_lc (own := [("kind", 1)]) (g := gName 1) (tt := tYes) rfl scAreKinds.nd (pi_list (pv 0)) (blkOk_by (N := nAreKinds) (sc := defScope sAreKinds) (by decide +kernel)) (fun _ _ _ _ _ => pg_name (i := 1) scAreKinds.nd rfl (Or.inl rfl)) (fun _ _ _ _ _ => pts_nil) (fun _ _ _ _ _ => (pe_call GI hr rfl TI.g TI.F.kp TI.b .nil pass0 (pa_cons (pv 1) pa_nil)))) pa_nil))))), ?_⟩
    refine ⟨_, rfl, _, _, _, _, true, rfl, .ty "list", .base (.lst eL), kit_ty (by decide +kernel), true, rfl, ?_⟩
    refine ⟨_, rfl, L, rfl, ⟨_, SqL.of eL⟩, fun D hD => ?_⟩
    have lT := hT.length
    refine lc_list (K := K) (xs := us) (fun i H' => Same H H' ∧ H' D = some (.lst (List.replicate i (.bl true)))) ⟨same_upd hD, upd_same⟩ (fun i H' _ q => SqL.of (q.1 _ _ eL)) ?_ ?_
    · rintro i x H' hx ⟨sI, eD⟩
      obtain ⟨t, ht, hxt⟩ := hT.at_ hx
      obtain ⟨hi, _⟩ := List.getElem?_eq_some_iff.mp ht
      obtain ⟨h1, h2⟩ := ho.2 t (List.mem_of_getElem? ht)
      have hl := ho.1
      refine ⟨rfl, x, rfl, x, t.d, rfl, (hxt.mono (TK.of_same sI)).d, h1, h2, fun H2 s2 => ⟨_, s2 _ _ eD, by rw [List.length_replicate, sizeLine_eq]; omega, same_over (sI.trans s2) hD, ?_⟩⟩
      rw [upd_same, isKd_d hxt.wok, ← List.replicate_succ']
    · rintro H' ⟨sI, eD⟩
      refine ⟨D, List.replicate us.length true, rfl, SqL.of (by rw [eD, List.map_replicate]), ?_⟩
      have e : (List.replicate us.length true).all id = true := by
        rw [List.all_eq_true]
        intro b hb
        exact (List.mem_replicate.mp hb).2
      rw [e]
      exact k _ sI
def spCheckRow : Sp := fun vs H Q _ => ∃ L ts, vs = [.ref L] ∧ RowAt H L ts ∧ RowOk ts ∧ ts ≠ [] ∧ ∀ H', Same H H' → Q .non H'
def spIsRow : Sp := fun vs H Q _ => ∃ L ts, vs = [.ref L] ∧ RowAt H L ts ∧ RowOk ts ∧ ts ≠ [] ∧ ∀ H', Same H H' → Q (.bl true) H'
theorem ok_isRow {f fa : Addr} {fd fda : FuncData} (T : Top K mg "is_row" sIsRow pIsRow f fd) (TA : Top K mg "are_kinds" sAreKinds pAreKinds fa fda) (GA : FnOk P w K mg base CX0 3 fa fda pAreKinds spAreKinds) (B : Blt mg) : FnOk P w K mg base CX0 4 f fd pIsRow spIsRow := by
  refine T.F.ok scIsRow (fun vs H Q E h => ?_) (fun cdv A outer s H vs Q E hr h => ?_)
  · obtain ⟨_, _, rfl, _⟩ := h
    rfl
  · obtain ⟨L, ts, rfl, hR, ho, hne, k⟩ := h
    refine ⟨_, pss_one (ps_ret (pe_and (pe_call GA hr rfl TA.g TA.F.kp TA.b .nil pass0 (pa_cons (pv 0) pa_nil)) (pe_one (pe_cmpR op_gt (pe_callB call_len_seq (by rfl) B.len PySem.boot_len (pa_cons (pv 0) pa_nil)) pe_int (nomark _))))), ?_⟩
    refine ⟨_, rfl, L, ts, rfl, hR, ho, fun H1 s1 => ⟨true, rfl, ?_⟩⟩
    obtain ⟨us, eL, hT⟩ := hR
    refine ⟨_, rfl, L, us, rfl, .inl (SqL.of (s1 _ _ eL)), _, _, rfl, rfl, ?_⟩
    have lp : 0 < ts.length := List.length_pos_iff.mpr hne
    have e : decide ((0 : Int) < (us.length : Int)) = true := decide_eq_true (by rw [hT.length]; omega)
    show Q (.bl (decide ((0 : Int) < (us.length : Int)))) H1
    rw [e]
    exact k H1 s1
theorem ok_checkRow {f fa : Addr} {fd fda : FuncData} (T : Top K mg "check_row" sCheckRow pCheckRow f fd) (TA : Top K mg "is_row" sIsRow pIsRow fa fda) (GA : FnOk P w K mg base CX0 4 fa fda pIsRow spIsRow) : FnOk P w K mg base CX0 5 f fd pCheckRow spCheckRow := by
  refine T.F.ok scCheckRow (fun vs H Q E h => ?_) (fun cdv A outer s H vs Q E hr h => ?_)
  · obtain ⟨_, _, rfl, _⟩ := h
    rfl
  · obtain ⟨L, ts, rfl, hR, ho, hne, k⟩ := h
    refine ⟨_, pss_one (ps_if (pt_not (pt_val (pe_call GA hr rfl TA.g TA.F.kp TA.b .nil pass0 (pa_cons (pv 0) pa_nil)))) pss_never pss_nil), ?_⟩
    exact ⟨_, rfl, L, ts, rfl, hR, ho, hne, fun H' s' => ⟨_, rfl, iteF (k H' s')⟩⟩
def spAsked : Sp := fun vs H Q _ => ∃ L ts g goal, vs = [.ref L, g] ∧ RowAt H L ts ∧ RowOk ts ∧ ts ≠ [] ∧ TyAt H g goal ∧ goal.d.dep ≤ 60 ∧ goal.d.size ≤ 1000000 ∧ ∀ H', Same H H' → Q .non H'
theorem RowAt.same {H H' : Hp} {L : Addr} {ts : List Ty} (h : RowAt H L ts) (s : Same H H') : RowAt H' L ts := by
  obtain ⟨us, e, hT⟩ := h
  exact ⟨us, s _ _ e, hT.mono (TK.of_same s)⟩
theorem ok_asked {f fr fk : Addr} {fd fdr fdk : FuncData} (T : Top K mg "check_asked" sCheckAsked pCheckAsked f fd) (TR : Top K mg "check_row" sCheckRow pCheckRow fr fdr) (TK_ : Top K mg "check_kind" sCheckKind pCheckKind fk fdk) (GR : FnOk P w K mg base CX0 5 fr fdr pCheckRow spCheckRow) (GK : FnOk P w K mg base CX0 3 fk fdk pCheckKind spCheckKindT) : FnOk P w K mg base CX0 6 f fd pCheckAsked spAsked := by
  refine T.F.ok scCheckAsked (fun vs H Q E h => ?_) (fun cdv A outer s H vs Q E hr h => ?_)
  · obtain ⟨_, _, _, _, rfl, _⟩ := h
    rfl
  · obtain ⟨L, ts, g, goal, rfl, hR, ho, hne, hg, hd, hz, k⟩ := h
    have hr3 : Room 3 _ := hr.mono (by decide)
    refine ⟨_, (pss_cons (ps_expr (pe_call GR hr rfl TR.g TR.F.kp TR.b .nil pass0 (pa_cons (pv 0) pa_nil)))
      (pss_one (ps_expr (pe_call GK hr3 rfl TK_.g TK_.F.kp TK_.b .nil pass0 (pa_cons (pv 1) pa_nil))))), ?_⟩
    exact ⟨_, rfl, L, ts, rfl, hR, ho, hne, fun H1 s1 => ⟨_, rfl, g, goal, rfl, hg.mono (TK.of_same s1), hd, hz, fun H2 s2 => k H2 (s1.trans s2)⟩⟩
def spIsDerOf : Sp := fun vs H Q _ => ∃ L ts g goal v d, vs = [.ref L, g, v] ∧ RowAt H L ts ∧ RowOk ts ∧ ts ≠ [] ∧ TyAt H g goal ∧ goal.d.dep ≤ 60 ∧ goal.d.size ≤ 1000000 ∧ DAt H v d ∧ d.size ≤ 4000 ∧ d.dep ≤ 60 ∧ ∀ H', Same H H' → Q (.bl (decide (d.tl = some (ts, goal)))) H'
theorem ok_isDerOf {f fa fg : Addr} {fd fda fdg : FuncData} (T : Top K mg "is_derivation_of" sIsDerivationOf pIsDerivationOf f fd) (TA : Top K mg "check_asked" sCheckAsked pCheckAsked fa fda) (TG : Top K mg "telling_of" sTellingOf pTellingOf fg fdg) (GA : FnOk P w K mg base CX0 6 fa fda pCheckAsked spAsked) (GG : FnOk P w K mg base CX0 6 fg fdg pTellingOf spTelling) : FnOk P w K mg base CX0 7 f fd pIsDerivationOf spIsDerOf := by
  refine T.F.ok scIsDerivationOf (fun vs H Q E h => ?_) (fun cdv A outer s H vs Q E hr h => ?_)
  · obtain ⟨_, _, _, _, _, _, rfl, _⟩ := h
    rfl
  · obtain ⟨L, ts, g, goal, v, d, rfl, hR, ho, hne, hg, hgd, hgz, hd, hz, hdp, k⟩ := h
    refine ⟨_, (pss_cons (ps_expr (pe_call GA hr rfl TA.g TA.F.kp TA.b .nil pass0 (pa_cons (pv 0) (pa_cons (pv 1) pa_nil))))
      (pss_one (ps_ret (pe_cmpR (op_eqD (hu64 hr)) (pe_call GG hr rfl TG.g TG.F.kp TG.b .nil pass0 (pa_cons (pv 2) pa_nil)) (pe_tup (pa_cons (pv 0) (pa_cons (pv 1) pa_nil))) (nomark _))))), ?_⟩
    refine ⟨_, rfl, _, rfl, L, ts, g, goal, rfl, hR, ho, hne, hg, hgd, hgz, fun H1 s1 => ⟨_, rfl, v, d, rfl, hd.mono (TK.of_same s1), hz, hdp, fun v' H2 s2 r2 => ⟨_, rfl, _, rfl, by show 2 ≤ sizeLine; rw [sizeLine_eq]; omega, fun q nq => ?_⟩⟩⟩
    have s3 := same_upd (o := .tup [.ref L, g]) nq
    have sm : ∀ r, d.tl = some r → Small r := fun r hr => tl_small hr (by omega) hdp
    have sm2 : ∀ r, (some (ts, goal) : Option Told) = some r → Small r := fun r hr => by
      cases hr
      exact ⟨ho.1, fun t ht => (ho.2 t ht).1, hgd⟩
    have sa := (s1.trans s2).trans s3
    obtain ⟨us, eL, hT⟩ := hR.same sa
    have R2 : Res (fun _ => True) (upd H2 q (.tup [.ref L, g])) (.ref q) (some (ts, goal)) := ⟨q, L, us, g, rfl, trivial, upd_same, eL, hT, hg.mono (TK.of_same sa)⟩
    obtain ⟨a1, a2, a3⟩ := Res.dp (K := K) (r2.same (ok' := fun _ => True) (fun _ _ => trivial) s3) sm
    obtain ⟨b1, b2, b3⟩ := Res.dp (K := K) R2 sm2
    refine ⟨_, _, a1, b1, ?_, ?_, ?_⟩
    · unfold SeqAt.shaped
      rw [a2, Bool.true_and]
      exact decide_eq_true (by omega)
    · unfold SeqAt.shaped
      rw [b2, Bool.true_and]
      exact decide_eq_true (by omega)
    · rw [eqv_tpy]
      exact k _ sa
/-- is it a cut? -/
def D.isCut : D → Bool
  | .t (.s nm :: _) => decide (nm = "cut")
  | _ => false
def spCutsOf : Sp := fun vs H Q _ => ∃ v d, vs = [v] ∧ DAt H v d ∧ d.size ≤ 4000 ∧ d.dep ≤ 60 ∧ d.tl.isSome = true ∧ ∀ H', Same H H' → Q (.int ((d.nodes.filter D.isCut).length : Nat)) H'
theorem filter_snoc5 {α : Type} (p : α → Bool) (l : List α) (i : Nat) (x : α) (h : l[i]? = some x) : (l.take (i + 1)).filter p = if p x = true then (l.take i).filter p ++ [x] else (l.take i).filter p := by
  rw [List.take_add_one, h, List.filter_append]
  by_cases c : p x = true <;> simp [List.filter, c]
end
end S4

namespace S4
open PySem PySem.Spec PyProof.Rows L2 KT
open PySem.W (Frag)
/-- a number, a truth value, a text -/
inductive Scl : V → Prop
  | i (n : Int) : Scl (.int n)
  | b (x : Bool) : Scl (.bl x)
  | s (z : Str) : Scl (.str z)
  | o : Scl .non
/-- equal data, to the depth k -/
def SameDt (H : Hp) : Nat → V → V → Prop
  | 0, v, v' => v' = v ∧ Scl v
  | k + 1, v, v' => (v' = v ∧ Scl v) ∨ ∃ a a' xs ys, v = .ref a ∧ v' = .ref a' ∧ ((H a = some (.lst xs) ∧ H a' = some (.lst ys)) ∨ (H a = some (.tup xs) ∧ H a' = some (.tup ys))) ∧ xs.length = ys.length ∧ xs.length ≤ 1000000 ∧
    ∀ (i : Nat) (x y : V), xs[i]? = some x → ys[i]? = some y → SameDt H k x y
theorem SameDt.mono {H H' : Hp} (s : Same H H') : ∀ {k : Nat} {v v' : V}, SameDt H k v v' → SameDt H' k v v'
  | 0, _, _, h => h
  | k + 1, _, _, h => by
    rcases h with h | ⟨a, a', xs, ys, e1, e2, h, hl, hm, hx⟩
    · exact .inl h
    · exact .inr ⟨a, a', xs, ys, e1, e2, h.imp (fun q => ⟨s _ _ q.1, s _ _ q.2⟩) fun q => ⟨s _ _ q.1, s _ _ q.2⟩, hl, hm, fun i x y h1 h2 => (hx i x y h1 h2).mono s⟩
theorem SameDt.up {H : Hp} : ∀ {k : Nat} {v v' : V}, SameDt H k v v' → SameDt H (k + 1) v v'
  | 0, _, _, h => .inl h
  | k + 1, _, _, h => by
    rcases h with h | ⟨a, a', xs, ys, e1, e2, h, hl, hm, hx⟩
    · exact .inl h
    · exact .inr ⟨a, a', xs, ys, e1, e2, h, hl, hm, fun i x y h1 h2 => (hx i x y h1 h2).up⟩
theorem SameDt.le {H : Hp} {k j : Nat} {v v' : V} (h : SameDt H k v v') (l : k ≤ j) : SameDt H j v v' := by
  induction j with
  | zero => obtain rfl : k = 0 := by omega
            exact h
  | succ j ih =>
    by_cases e : k = j + 1
    · rw [← e]; exact h
    · exact (ih (by omega)).up
theorem SameDt.scl {H : Hp} {k : Nat} {v : V} (h : Scl v) : SameDt H k v v := by
  cases k
  · exact ⟨rfl, h⟩
  · exact .inl ⟨rfl, h⟩
theorem SameDt.ty {H : Hp} {v v' : V} {t : Ty} (h : TyAt H v t) : TyAt H v' t → SameDt H t.signs v v' := by
  induction h generalizing v' with
  | w h =>
    intro h'
    cases h'
    exact ⟨rfl, .s _⟩
  | @n p g x y a b e h1 h2 i j =>
    intro h'
    cases h' with
    | @n p' _ x' y' _ _ e' k1 k2 =>
      have q : SameDt H (a.signs + b.signs + 1) (.ref p) (.ref p') := by
        refine .inr ⟨p, p', _, _, rfl, rfl, .inr ⟨e, e'⟩, rfl, by show 3 ≤ 1000000; omega, fun i' u u' h3 h4 => ?_⟩
        match i', h3, h4 with
        | 0, h3, h4 =>
          obtain rfl := Option.some.inj h3
          obtain rfl := Option.some.inj h4
          exact .scl (.s _)
        | 1, h3, h4 =>
          obtain rfl := Option.some.inj h3
          obtain rfl := Option.some.inj h4
          exact (i k1).le (by omega)
        | 2, h3, h4 =>
          obtain rfl := Option.some.inj h3
          obtain rfl := Option.some.inj h4
          exact (j k2).le (by omega)
        | n + 3, h3, h4 => exact absurd h3 (by simp)
      exact q.le (by simp only [Ty.signs]; omega)
theorem walk_zipT {K : Frag} {a b : Addr} {xs ys : List V} {n : Nat} (hn : n = min xs.length ys.length) : Walk (RZ.ItzT K a b) n (fun H => SqT K H a xs ∧ SqT K H b ys) (YPair (fun i => xs[i]?) (fun i => ys[i]?)) := by
  subst hn
  refine ⟨fun i _ hi q => ?_, fun _ q => ⟨xs, ys, q.1, q.2, by omega⟩, fun i H v H' _ q y => ?_⟩
  · have h1 : i < xs.length := by omega
    have h2 : i < ys.length := by omega
    exact ⟨xs, ys, xs[i], ys[i], q.1, q.2, by simp [h1], by simp [h2]⟩
  · obtain ⟨T, x, z, h1, h2, h3, h4, h5⟩ := y
    exact ⟨T, x, z, h1, h2, h3, h4 xs q.1, h5 ys q.2⟩
theorem pe_never {X : Cx} {e : Expr} : PE X e (fun _ _ _ => False) := ⟨fun _ _ _ _ _ _ h => h.elim⟩
section
variable {P : Program} {w : World} {K : Frag} {mg : Str → Option Value} {base : Heap}
def spExact (d : Nat) : Sp := fun vs H Q _ => ∃ v v', vs = [v, v'] ∧ SameDt H d v v' ∧ ∀ H', Same H H' → Q (.bl true) H'
theorem scl_ty {v : V} (h : Scl v) : ∃ (c : String) (bi bb : Bool), (∀ H, TyX K H v (.type c)) ∧ PySem.W.kitAny K (.type c) [.type "list", .type "tuple"] = some false ∧ PySem.W.kitOne K (.type c) (.type "dict") = some false ∧
    PySem.W.kitOne K (.type c) (.type "int") = some bi ∧ PySem.W.kitOne K (.type c) (.type "bool") = some bb ∧ scal v v = true := by
  have f2 : ∀ c : String, kitB c "list" = some false → kitB c "tuple" = some false → PySem.W.kitAny K (.type c) [.type "list", .type "tuple"] = some false := by
    intro c h1 h2
    exact kitAny_cons (kit_ty h1) (fun _ => kitAny_cons (kit_ty h2) (fun _ => kitAny_nil) (fun z => by cases z)) (fun z => by cases z)
  cases h with
  | i n => exact ⟨"int", true, false, fun _ => .base (.int n), f2 _ (by decide +kernel) (by decide +kernel), kit_ty (by decide +kernel), kit_ty (by decide +kernel), kit_ty (by decide +kernel), rfl⟩
  | b x => exact ⟨"bool", true, true, fun _ => .base (.bl x), f2 _ (by decide +kernel) (by decide +kernel), kit_ty (by decide +kernel), kit_ty (by decide +kernel), kit_ty (by decide +kernel), rfl⟩
  | o => exact ⟨"NoneType", false, false, fun _ => .base .non, f2 _ (by decide +kernel) (by decide +kernel), kit_ty (by decide +kernel), kit_ty (by decide +kernel), kit_ty (by decide +kernel), rfl⟩
  | s z => exact ⟨"str", false, false, fun _ => .base (.str z), f2 _ (by decide +kernel) (by decide +kernel), kit_ty (by decide +kernel), kit_ty (by decide +kernel), kit_ty (by decide +kernel), rfl⟩
theorem ok_exact {f : Addr} {fd : FuncData} (T : Top K mg "_law_exact" sLExact pLExact f fd) (B : Blt mg) : ∀ d : Nat, d ≤ 60 → FnOk P w K mg base CX0 (1 + d) f fd pLExact (spExact d)
  | 0, _ => by
    refine T.F.ok scLExact (fun vs H Q E h => ?_) (fun cdv A outer s H vs Q E hr h => ?_)
    · obtain ⟨_, _, rfl, _⟩ := h
      rfl
    · obtain ⟨v, v', rfl, ⟨rfl, hs⟩, k⟩ := h
      refine ⟨_, (pss_cons (ps_if (pt_val (pe_callB call_isiT (by rfl) B.isi (by decide +kernel) (pa_cons (pv 0) (pa_cons (pe_tup (pa_cons (pe_bltn (v := .ty "list") (by rfl) B.list (by decide +kernel) rfl) (pa_cons (pe_bltn (v := .ty "tuple") (by rfl) B.tuple (by decide +kernel) rfl) pa_nil))) pa_nil)))) pss_never pss_nil)
      (pss_cons (ps_if (pt_val (pe_callB call_isi (by rfl) B.isi (by decide +kernel) (pa_cons (pv 0) (pa_cons (pe_bltn (v := .ty "dict") (by rfl) B.dict (by decide +kernel) rfl) pa_nil)))) pss_never pss_nil)
      (pss_cons (ps_set (i := 2) scLExact.nd rfl (Or.inl rfl) (pe_cmpR op_eq (pe_callB call_isi (by rfl) B.isi (by decide +kernel) (pa_cons (pv 0) (pa_cons (pe_bltn (v := .ty "int") (by rfl) B.int (by decide +kernel) rfl) pa_nil))) (pe_callB call_isi (by rfl) B.isi (by decide +kernel) (pa_cons (pv 1) (pa_cons (pe_bltn (v := .ty "int") (by rfl) B.int (by decide +kernel) rfl) pa_nil))) (nomark _)))
      (pss_one (ps_ret (pe_and (pv 2) (pe_and (pe_cmpR op_eq (pe_callB call_isi (by rfl) B.isi (by decide +kernel) (pa_cons (pv 0) (pa_cons (pe_bltn (v := .ty "bool") (by rfl) B.bool_ (by decide +kernel) rfl) pa_nil))) (pe_callB call_isi (by rfl) B.isi (by decide +kernel) (pa_cons (pv 1) (pa_cons (pe_bltn (v := .ty "bool") (by rfl) B.bool_ (by decide +kernel) rfl) pa_nil))) (nomark _)) (pe_one (pe_cmpR op_eq (pv 0) (pv 1) (nomark _)))))))))), ?_⟩
      obtain ⟨c, bi, bb, ty, k1, k2, k3, k4, sc⟩ := scl_ty (K := K) hs
      refine ⟨v', rfl, by show 2 ≤ sizeLine; rw [sizeLine_eq]; omega, fun p hp => ⟨v', p, _, _, _, false, rfl, upd_same, .cons (.ty "list") (.cons (.ty "tuple") .nil), ty _, k1, false, rfl, iteF ?_⟩⟩
      refine ⟨_, rfl, _, _, _, _, false, rfl, .ty "dict", ty _, k2, false, rfl, iteF ?_⟩
      refine ⟨_, rfl, _, _, _, _, bi, rfl, .ty "int", ty _, k3, _, rfl, _, _, _, _, bi, rfl, .ty "int", ty _, k3, rfl, ?_⟩
      refine ⟨_, rfl, true, congrArg V.bl (decide_eq_true rfl), ?_⟩
      refine ⟨_, rfl, _, _, _, _, bb, rfl, .ty "bool", ty _, k4, _, rfl, _, _, _, _, bb, rfl, .ty "bool", ty _, k4, rfl, true, congrArg V.bl (decide_eq_true rfl), ?_⟩
      refine ⟨_, rfl, _, rfl, sc, ?_⟩
      have e : decide (v' = v') = true := decide_eq_true rfl
      rw [e]
      exact k _ (same_upd hp)
  | d + 1, hd => by
    have GE : FnOk P w K mg base CX0 (1 + d) f fd pLExact (spExact d) := ok_exact T B d (by omega)
    refine T.F.ok (k := 1 + d) scLExact (fun vs H Q E h => ?_) (fun cdv A outer s H vs Q E hr h => ?_)
    · obtain ⟨_, _, rfl, _⟩ := h
      rfl
    · obtain ⟨v, v', rfl, hd', k⟩ := h
      refine ⟨_, (pss_cons (ps_if (pt_val (pe_callB call_isiT (by rfl) B.isi (by decide +kernel) (pa_cons (pv 0) (pa_cons (pe_tup (pa_cons (pe_bltn (v := .ty "list") (by rfl) B.list (by decide +kernel) rfl) (pa_cons (pe_bltn (v := .ty "tuple") (by rfl) B.tuple (by decide +kernel) rfl) pa_nil))) pa_nil)))) (pss_cons (ps_set (i := 2) scLExact.nd rfl (Or.inl rfl) (pe_and (pe_cmpR op_eq (pe_callB call_isi (by rfl) B.isi (by decide +kernel) (pa_cons (pv 1) (pa_cons (pe_bltn (v := .ty "list") (by rfl) B.list (by decide +kernel) rfl) pa_nil))) (pe_callB call_isi (by rfl) B.isi (by decide +kernel) (pa_cons (pv 0) (pa_cons (pe_bltn (v := .ty "list") (by rfl) B.list (by decide +kernel) rfl) pa_nil))) (nomark _)) (pe_one (pe_cmpR op_eq (pe_callB call_isi (by rfl) B.isi (by decide +kernel) (pa_cons (pv 1) (pa_cons (pe_bltn (v := .ty "tuple") (by rfl) B.tuple (by decide +kernel) rfl) pa_nil))) (pe_callB call_isi (by rfl) B.isi (by decide +kernel) (pa_cons (pv 0) (pa_cons (pe_bltn (v := .ty "tuple") (by rfl) B.tuple (by decide +kernel) rfl) pa_nil))) (nomark _)))))
      (pss_one (ps_ret (pe_and (pv 2) (pe_and (pe_cmpR op_eq (pe_callB call_len_seq (by rfl) B.len PySem.boot_len (pa_cons (pv 0) pa_nil)) (pe_callB call_len_seq (by rfl) B.len PySem.boot_len (pa_cons (pv 1) pa_nil)) (nomark _)) (pe_one (pe_callB (cr_all rfl) (by rfl) B.all (by decide +kernel) (pa_cons (pe_lc (own := [("a", 3), ("b", 4)]) (g := gTup K 2 (gCons (gName 3) (gCons (gName 4) gNil))) (tt := tYes) rfl scLExact.nd (RZ.pi_zipA (by rfl) B.zip (pa_cons (pv 0) (pa_cons (pv 1) pa_nil))) (blkOk_by (N := nLExact) (sc := defScope sLExact) (by decide +kernel)) (fun _ _ _ _ _ => pg_tup (by rfl) (pgs_cons (pg_name (i := 3) scLExact.nd rfl (Or.inl rfl)) (pgs_cons (pg_name (i := 4) scLExact.nd rfl (Or.inl rfl)) pgs_nil))) (fun _ _ _ _ _ => pts_nil)
            (fun _ _ _ _ _ => (pe_call GE hr rfl T.g T.F.kp T.b .nil pass0 (pa_cons (pv 3) (pa_cons (pv 4) pa_nil))))) pa_nil)))))))) pss_nil)
      (pss_cons (ps_if (pt_val (pe_callB call_isi (by rfl) B.isi (by decide +kernel) (pa_cons (pv 0) (pa_cons (pe_bltn (v := .ty "dict") (by rfl) B.dict (by decide +kernel) rfl) pa_nil)))) pss_never pss_nil)
      (pss_cons (ps_set (i := 2) scLExact.nd rfl (Or.inl rfl) (pe_cmpR op_eq (pe_callB call_isi (by rfl) B.isi (by decide +kernel) (pa_cons (pv 0) (pa_cons (pe_bltn (v := .ty "int") (by rfl) B.int (by decide +kernel) rfl) pa_nil))) (pe_callB call_isi (by rfl) B.isi (by decide +kernel) (pa_cons (pv 1) (pa_cons (pe_bltn (v := .ty "int") (by rfl) B.int (by decide +kernel) rfl) pa_nil))) (nomark _)))
      (pss_one (ps_ret (pe_and (pv 2) (pe_and (pe_cmpR op_eq (pe_callB call_isi (by rfl) B.isi (by decide +kernel) (pa_cons (pv 0) (pa_cons (pe_bltn (v := .ty "bool") (by rfl) B.bool_ (by decide +kernel) rfl) pa_nil))) (pe_callB call_isi (by rfl) B.isi (by decide +kernel) (pa_cons (pv 1) (pa_cons (pe_bltn (v := .ty "bool") (by rfl) B.bool_ (by decide +kernel) rfl) pa_nil))) (nomark _)) (pe_one (pe_cmpR op_eq (pv 0) (pv 1) (nomark _)))))))))), ?_⟩
      rcases hd' with ⟨rfl, hs⟩ | ⟨a, a', xs, ys, rfl, rfl, hk, hl, hm, hx⟩
      · obtain ⟨c, bi, bb, ty, k1, k2, k3, k4, sc⟩ := scl_ty (K := K) hs
        refine ⟨v', rfl, by show 2 ≤ sizeLine; rw [sizeLine_eq]; omega, fun p hp => ⟨v', p, _, _, _, false, rfl, upd_same, .cons (.ty "list") (.cons (.ty "tuple") .nil), ty _, k1, false, rfl, iteF ?_⟩⟩
        refine ⟨_, rfl, _, _, _, _, false, rfl, .ty "dict", ty _, k2, false, rfl, iteF ?_⟩
        refine ⟨_, rfl, _, _, _, _, bi, rfl, .ty "int", ty _, k3, _, rfl, _, _, _, _, bi, rfl, .ty "int", ty _, k3, rfl, ?_⟩
        refine ⟨_, rfl, true, congrArg V.bl (decide_eq_true rfl), ?_⟩
        refine ⟨_, rfl, _, _, _, _, bb, rfl, .ty "bool", ty _, k4, _, rfl, _, _, _, _, bb, rfl, .ty "bool", ty _, k4, rfl, true, congrArg V.bl (decide_eq_true rfl), ?_⟩
        refine ⟨_, rfl, _, rfl, sc, ?_⟩
        have e : decide (v' = v') = true := decide_eq_true rfl
        rw [e]
        exact k _ (same_upd hp)

      · rcases hk with ⟨h1, h2⟩ | ⟨h1, h2⟩
        · have tyA : ∀ p, H p = none → ∀ b zs, H b = some (.lst zs) → TyX K (upd H p (.tup [.ty "list", .ty "tuple"])) (.ref b) (.type "list") := fun p hp b zs e => .base (.lst (show upd H p _ b = _ by rw [upd_ne (ne_of_none e hp)]; exact e))
          refine ⟨.ref a, rfl, by show 2 ≤ sizeLine; rw [sizeLine_eq]; omega, fun p hp => ⟨.ref a, p, _, _, _, true, rfl, upd_same, .cons (.ty "list") (.cons (.ty "tuple") .nil), tyA p hp a xs h1, kitAny_cons (b := true) (kit_ty (by decide +kernel)) (fun z => by cases z) (fun _ => rfl), true, rfl, iteT ?_⟩⟩
          have s1 : Same H (upd H p (.tup [.ty "list", .ty "tuple"])) := same_upd hp
          refine ⟨_, rfl, _, _, _, _, true, rfl, .ty "list", tyA p hp a' ys h2, kit_ty (by decide +kernel), _, rfl, _, _, _, _, true, rfl, .ty "list", tyA p hp a xs h1, kit_ty (by decide +kernel), rfl, true, congrArg V.bl (decide_eq_true rfl), ?_⟩
          refine ⟨_, rfl, _, _, _, _, false, rfl, .ty "tuple", tyA p hp a' ys h2, kit_ty (by decide +kernel), _, rfl, _, _, _, _, false, rfl, .ty "tuple", tyA p hp a xs h1, kit_ty (by decide +kernel), rfl, ?_⟩
          refine ⟨_, rfl, true, congrArg V.bl (decide_eq_true rfl), ?_⟩
          refine ⟨_, rfl, a, xs, rfl, .inl (SqL.of (s1 _ _ h1)), _, rfl, a', ys, rfl, .inl (SqL.of (s1 _ _ h2)), rfl, true, congrArg V.bl (decide_eq_true (by rw [hl])), ?_⟩
          refine ⟨_, rfl, _, rfl, a, a', xs, ys, rfl, .inl ⟨SqL.of (s1 _ _ h1), SqL.of (s1 _ _ h2), fun D hD => ?_⟩⟩
          have sD : Same H (upd (upd H p (.tup [.ty "list", .ty "tuple"])) D (.lst [])) := s1.trans (same_upd hD)
          have nHD : H D = none := s1.free hD
          refine lc_it (walk_zip (n := xs.length) (by omega)) (fun i H' => Same H H' ∧ H' D = some (.lst (List.replicate i (.bl true)))) ⟨sD, upd_same⟩ (fun i H' _ q => ⟨SqL.of (q.1 _ _ h1), SqL.of (q.1 _ _ h2)⟩) ?_ ?_
          · rintro i x H' H2 hi ⟨sI, eD⟩ ⟨Tp, x1, x2, rfl, nT, rfl, g1, g2⟩
            have s2 : Same H' (upd H' Tp (.tup [x1, x2])) := same_upd nT
            refine ⟨Tp, _, rfl, SqT.of upd_same, rfl, _, _, rfl, _, _, rfl, rfl, rfl, ?_⟩
            refine ⟨_, rfl, _, rfl, x1, x2, rfl, (hx i x1 x2 g1 g2).mono (sI.trans s2), fun H3 s3 => ⟨_, s3 _ _ (s2 _ _ eD), by rw [List.length_replicate, sizeLine_eq]; omega, ?_, ?_⟩⟩
            · exact same_over ((sI.trans s2).trans s3) nHD
            · rw [upd_same, ← List.replicate_succ']
          · rintro H' ⟨sI, eD⟩
            refine ⟨D, List.replicate xs.length true, rfl, SqL.of (by rw [eD, List.map_replicate]), ?_⟩
            have e : (List.replicate xs.length true).all id = true := by
              rw [List.all_eq_true]
              intro b hb
              exact (List.mem_replicate.mp hb).2
            rw [e]
            exact k _ sI
        · have tyA : ∀ p, H p = none → ∀ b zs, H b = some (.tup zs) → TyX K (upd H p (.tup [.ty "list", .ty "tuple"])) (.ref b) (.type "tuple") := fun p hp b zs e => .base (.tup (show upd H p _ b = _ by rw [upd_ne (ne_of_none e hp)]; exact e))
          refine ⟨.ref a, rfl, by show 2 ≤ sizeLine; rw [sizeLine_eq]; omega, fun p hp => ⟨.ref a, p, _, _, _, true, rfl, upd_same, .cons (.ty "list") (.cons (.ty "tuple") .nil), tyA p hp a xs h1, kitAny_cons (b := false) (kit_ty (by decide +kernel)) (fun _ => kitAny_cons (b := true) (kit_ty (by decide +kernel)) (fun z => by cases z) (fun _ => rfl)) (fun z => by cases z), true, rfl, iteT ?_⟩⟩
          have s1 : Same H (upd H p (.tup [.ty "list", .ty "tuple"])) := same_upd hp
          refine ⟨_, rfl, _, _, _, _, false, rfl, .ty "list", tyA p hp a' ys h2, kit_ty (by decide +kernel), _, rfl, _, _, _, _, false, rfl, .ty "list", tyA p hp a xs h1, kit_ty (by decide +kernel), rfl, true, congrArg V.bl (decide_eq_true rfl), ?_⟩
          refine ⟨_, rfl, _, _, _, _, true, rfl, .ty "tuple", tyA p hp a' ys h2, kit_ty (by decide +kernel), _, rfl, _, _, _, _, true, rfl, .ty "tuple", tyA p hp a xs h1, kit_ty (by decide +kernel), rfl, ?_⟩
          refine ⟨_, rfl, true, congrArg V.bl (decide_eq_true rfl), ?_⟩
          refine ⟨_, rfl, a, xs, rfl, .inr (SqT.of (s1 _ _ h1)), _, rfl, a', ys, rfl, .inr (SqT.of (s1 _ _ h2)), rfl, true, congrArg V.bl (decide_eq_true (by rw [hl])), ?_⟩
          refine ⟨_, rfl, _, rfl, a, a', xs, ys, rfl, .inr ⟨SqT.of (s1 _ _ h1), SqT.of (s1 _ _ h2), fun D hD => ?_⟩⟩
          have sD : Same H (upd (upd H p (.tup [.ty "list", .ty "tuple"])) D (.lst [])) := s1.trans (same_upd hD)
          have nHD : H D = none := s1.free hD
          refine lc_it (walk_zipT (n := xs.length) (by omega)) (fun i H' => Same H H' ∧ H' D = some (.lst (List.replicate i (.bl true)))) ⟨sD, upd_same⟩ (fun i H' _ q => ⟨SqT.of (q.1 _ _ h1), SqT.of (q.1 _ _ h2)⟩) ?_ ?_
          · rintro i x H' H2 hi ⟨sI, eD⟩ ⟨Tp, x1, x2, rfl, nT, rfl, g1, g2⟩
            have s2 : Same H' (upd H' Tp (.tup [x1, x2])) := same_upd nT
            refine ⟨Tp, _, rfl, SqT.of upd_same, rfl, _, _, rfl, _, _, rfl, rfl, rfl, ?_⟩
            refine ⟨_, rfl, _, rfl, x1, x2, rfl, (hx i x1 x2 g1 g2).mono (sI.trans s2), fun H3 s3 => ⟨_, s3 _ _ (s2 _ _ eD), by rw [List.length_replicate, sizeLine_eq]; omega, ?_, ?_⟩⟩
            · exact same_over ((sI.trans s2).trans s3) nHD
            · rw [upd_same, ← List.replicate_succ']
          · rintro H' ⟨sI, eD⟩
            refine ⟨D, List.replicate xs.length true, rfl, SqL.of (by rw [eD, List.map_replicate]), ?_⟩
            have e : (List.replicate xs.length true).all id = true := by
              rw [List.all_eq_true]
              intro b hb
              exact (List.mem_replicate.mp hb).2
            rw [e]
            exact k _ sI
end
end S4

namespace S4
open PySem PySem.Spec PyProof.Rows L2 LamX KT
open PySem.W (Frag)
section
variable {P : Program} {w : World} {K : Frag} {mg : Str → Option Value} {base : Heap}
def spLSigns (d : Nat) : Sp := fun vs H Q _ => ∃ v t, vs = [v] ∧ TyAt H v t ∧ t.signs ≤ d ∧ Q (.int t.signs) H
def D.pl (m : Int) : D → Bool
  | .i n => decide (0 ≤ n) && decide (n < m)
  | _ => false
def spIsPlace : Sp := fun vs H Q _ => ∃ v d m, vs = [v, .int m] ∧ DAt H v d ∧ Q (.bl (d.pl m)) H
theorem kd_t {ds : List D} (h : (D.t ds).isKd = true) : ∃ g a b, ds = [.s g, a, b] := by
  unfold D.isKd at h
  obtain ⟨t, ht⟩ := Option.isSome_iff_exists.mp h
  simp only [D.ty] at ht
  obtain ⟨g, x, y, a, b, e, _⟩ := mkTy_inv ht
  exact ⟨_, x, y, e⟩
theorem kd_3 (g : Str) (a b : D) : (D.t [.s g, a, b]).isKd = ((sgOf g).isSome && (a.isKd && b.isKd)) := by
  simp only [D.isKd, D.ty, tyAll, mkTy]
  cases e : sgOf g <;> cases a.ty <;> cases b.ty <;> simp [e]
theorem sg_in (g : Str) : inV (.str g) [V.str "over", .str "under", .str "then"] = (sgOf g).isSome := by
  have e := inV_str g [("over" : Str), "under", "then"]
  show inV (.str g) ([("over" : Str), "under", "then"].map V.str) = _
  rw [e]
  unfold sgOf
  by_cases h1 : g = "over"
  · subst h1
    decide +kernel
  · by_cases h2 : g = "then"
    · subst h2
      decide +kernel
    · by_cases h3 : g = "under"
      · subst h3
        decide +kernel
      · simp [h1, h2, h3]
def spLIsKind (n : Nat) : Sp := fun vs H Q _ => ∃ v d, vs = [v] ∧ DAt H v d ∧ d.dep ≤ n ∧ ∀ H', Same H H' → Q (.bl d.isKd) H'
theorem fn_vac {f : Addr} {fd : FuncData} {ps : List Str} : FnOk P w K mg base CX0 0 f fd ps (fun _ _ _ _ => False) := ⟨fun _ _ _ _ h => h.elim, fun _ _ _ _ _ _ _ _ _ _ _ _ _ h => h.elim⟩
end
end S4

namespace S4
open PySem PySem.Spec PyProof.Rows L2 LamX KT
open PySem.W (Frag)
/-- what the law's own teller tells -/
def LRes (H : Hp) (v : V) : Option Told → Prop
  | none => v = .non
  | some r => ∃ p L us g, v = .ref p ∧ H p = some (.lst [.ref L, g]) ∧ H L = some (.lst us) ∧ Tys H us r.1 ∧ TyAt H g r.2
theorem LRes.same {H H' : Hp} {v : V} {o : Option Told} (h : LRes H v o) (s : Same H H') : LRes H' v o := by
  cases o with
  | none => exact h
  | some r =>
    obtain ⟨p, L, us, g, e, h1, h2, h3, h4⟩ := h
    exact ⟨p, L, us, g, e, s _ _ h1, s _ _ h2, h3.mono (TK.of_same s), h4.mono (TK.of_same s)⟩
theorem LRes.isnon {H : Hp} {v : V} {o : Option Told} (h : LRes H v o) : decide (v = .non) = o.isNone := by
  cases o with
  | none =>
    obtain rfl : v = .non := h
    rfl
  | some r =>
    obtain ⟨p, L, us, g, rfl, _⟩ := h
    rfl
section
variable {P : Program} {w : World} {K : Frag} {mg : Str → Option Value} {base : Heap}
def spLTells (n : Nat) : Sp := fun vs H Q _ => ∃ v d, vs = [v] ∧ DAt H v d ∧ d.dep ≤ n ∧ d.size ≤ 4000 ∧ d.dep ≤ 60 ∧ ∀ v' H', Same H H' → LRes H' v' d.tl → Q v' H'
def spToldMade (n : Nat) : Sp := fun vs H Q _ => ∃ v nm x, vs = [v] ∧ DAt H v (.t [.s nm, x]) ∧ (nm = "over made" ∨ nm = "under made") ∧ (D.t [.s nm, x]).dep ≤ n ∧ (D.t [.s nm, x]).size ≤ 4000 ∧ (D.t [.s nm, x]).dep ≤ 60 ∧ ∀ v' H', Same H H' → LRes H' v' (D.t [.s nm, x]).tl → Q v' H'
def spToldUsed (n : Nat) : Sp := fun vs H Q _ => ∃ v nm a x y, vs = [v] ∧ DAt H v (.t [.s nm, a, x, y]) ∧ placed nm = true ∧ (D.t [.s nm, a, x, y]).dep ≤ n ∧ (D.t [.s nm, a, x, y]).size ≤ 4000 ∧ (D.t [.s nm, a, x, y]).dep ≤ 60 ∧ ∀ v' H', Same H H' → LRes H' v' (D.t [.s nm, a, x, y]).tl → Q v' H'
/-- the promise of the teller at lesser depth -/
def LessT (n : Nat) (sp' : Sp) : Prop := ∀ v d H Q, DAt H v d → d.dep + 1 ≤ n → d.size ≤ 4000 → d.dep ≤ 60 → (∀ v' H', Same H H' → LRes H' v' d.tl → Q v' H') → sp' [v] H Q L2.E0
end
end S4

namespace S4
open PySem PySem.Spec PyProof.Rows L2 LamX KT
open PySem.W (Frag)
theorem placed_names {nm : Str} (h : placed nm = true) : nm = "over used" ∨ nm = "under used" ∨ nm = "cut" := by
  unfold placed at h
  rw [Bool.or_eq_true, Bool.or_eq_true, decide_eq_true_eq, decide_eq_true_eq, decide_eq_true_eq] at h
  rcases h with (e | e) | e
  · exact .inl e
  · exact .inr (.inl e)
  · exact .inr (.inr e)
/-- what comes of a type used at a place -/
def lateOf (nm : Str) (k : Ty) (x : Told) : List Ty := if nm = "over used" then [.n .ov k x.2] ++ x.1 else if nm = "under used" then x.1 ++ [.n .un x.2 k] else x.1
theorem usedAt_late {nm : Str} (h : placed nm = true) {n : Nat} {x y : Told} {k : Ty} (hk : y.1[n]? = some k) (hc : nm = "cut" → k = x.2) : usedAt nm n x y = some (y.1.take n ++ lateOf nm k x ++ y.1.drop (n + 1), y.2) := by
  rcases placed_names h with rfl | rfl | rfl
  · simp [usedAt, hk, lateOf]
  · simp [usedAt, hk, lateOf]
  · simp [usedAt, hk, lateOf, hc rfl]
section
variable {P : Program} {w : World} {K : Frag} {mg : Str → Option Value} {base : Heap}
end
end S4

namespace S4
open PySem PySem.Spec PyProof.Rows L2 LamX KT
open PySem.W (Frag)
theorem tl_nstr {a : D} {r : List D} (h : a.isStr = false) : (D.t (a :: r)).tl = none := by
  cases a with
  | s z => cases h
  | i n => rcases r with _ | ⟨a, _ | ⟨b, _ | ⟨c, _ | ⟨d, r⟩⟩⟩⟩ <;> simp [D.tl, tlAll, tellOf]
  | o => rcases r with _ | ⟨a, _ | ⟨b, _ | ⟨c, _ | ⟨d, r⟩⟩⟩⟩ <;> simp [D.tl, tlAll, tellOf]
  | t l => rcases r with _ | ⟨a, _ | ⟨b, _ | ⟨c, _ | ⟨d, r⟩⟩⟩⟩ <;> simp [D.tl, tlAll, tellOf]
theorem tl_len {nm : Str} {r : List D} {o : Told} (h : (D.t (.s nm :: r)).tl = some o) : (nm = "is" ∧ r.length = 1) ∨ (nm = "over made" ∧ r.length = 1) ∨ (nm = "under made" ∧ r.length = 1) ∨ (nm = "then made" ∧ r.length = 2) ∨ (nm = "then used" ∧ r.length = 2) ∨ (placed nm = true ∧ r.length = 3) := by
  cases tl_inv h with
  | is _ => exact .inl ⟨rfl, rfl⟩
  | om _ _ => exact .inr (.inl ⟨rfl, rfl⟩)
  | um _ _ => exact .inr (.inr (.inl ⟨rfl, rfl⟩))
  | tm _ _ => exact .inr (.inr (.inr (.inl ⟨rfl, rfl⟩)))
  | tu _ _ => exact .inr (.inr (.inr (.inr (.inl ⟨rfl, rfl⟩))))
  | us c _ _ _ => exact .inr (.inr (.inr (.inr (.inr ⟨c, rfl⟩))))
theorem none_of {α : Type} {o : Option α} (h : ∀ r, o = some r → False) : o = none := by
  cases o with
  | none => rfl
  | some r => exact (h r rfl).elim
theorem strEq (a b : Str) : decide (V.str a = V.str b) = decide (a = b) := by
  rw [decide_eq_decide]
  exact ⟨fun z => by injection z, fun z => by rw [z]⟩
theorem in2 (nm : Str) : (if false = true then !inV (V.str nm) [V.str "over made", .str "under made"] else inV (V.str nm) [V.str "over made", .str "under made"]) = decide (nm = "over made" ∨ nm = "under made") := by
  rw [if_neg (by decide)]
  have e := inV_str nm [("over made" : Str), "under made"]
  refine e.trans ?_
  rw [decide_eq_decide]
  simp
theorem in3 (nm : Str) : (if false = true then !inV (V.str nm) [V.str "over used", .str "under used", .str "cut"] else inV (V.str nm) [V.str "over used", .str "under used", .str "cut"]) = decide (placed nm = true) := by
  rw [if_neg (by decide)]
  have e := inV_str nm [("over used" : Str), "under used", "cut"]
  refine e.trans ?_
  rw [decide_eq_decide]
  unfold placed
  simp [or_assoc]
section
variable {P : Program} {w : World} {K : Frag} {mg : Str → Option Value} {base : Heap}
end
end S4

namespace S4
open PySem PySem.Spec PyProof.Rows L2 LamX KT
open PySem.W (Frag)
section
variable {P : Program} {w : World} {K : Frag} {mg : Str → Option Value} {base : Heap}
theorem dep_mem {p : D} : ∀ {l : List D}, p ∈ l → p.dep ≤ depAll l
  | [], h => by cases h
  | d :: r, h => by
    simp only [depAll]
    rcases List.mem_cons.mp h with e | q
    · rw [e]; omega
    · have := dep_mem q; omega
/-! ### equal data again -/
def spSame (n : Nat) : Sp := fun vs H Q _ => ∃ v u, vs = [v] ∧ DAt H v u ∧ u.dep ≤ n ∧ u.size ≤ 4000 ∧ ∀ v' H', Same H H' → DAt H' v' u → Q v' H'
theorem same_step {f : Addr} {fd : FuncData} (T : Top K mg "_law_same" sLSame pLSame f fd) (B : Blt mg) {n m : Nat} {sp' : Sp} (GP : FnOk P w K mg base CX0 m f fd pLSame sp')
    (hsp : ∀ v u H Q, DAt H v u → u.dep + 1 ≤ n → u.size ≤ 4000 → (∀ v' H', Same H H' → DAt H' v' u → Q v' H') → sp' [v] H Q L2.E0) : FnOk P w K mg base CX0 (m + 1) f fd pLSame (spSame n) := by
  refine T.F.ok scLSame (fun vs H Q E h => ?_) (fun cdv A outer s H vs Q E hr h => ?_)
  · obtain ⟨_, _, rfl, _⟩ := h
    rfl
  · obtain ⟨v, u, rfl, hd, hn, hz, k⟩ := h
    refine ⟨_, (pss_cons (ps_if (pt_val (pe_callB call_isi (by rfl) B.isi (by decide +kernel) (pa_cons (pv 0) (pa_cons (pe_bltn (v := .ty "dict") (by rfl) B.dict (by decide +kernel) rfl) pa_nil)))) pss_never pss_nil)
      (pss_cons (ps_if (pt_val (pe_callB call_isi (by rfl) B.isi (by decide +kernel) (pa_cons (pv 0) (pa_cons (pe_bltn (v := .ty "list") (by rfl) B.list (by decide +kernel) rfl) pa_nil)))) pss_never pss_nil)
      (pss_one (ps_ret (pe_ifExp (pt_val (pe_callB call_isi (by rfl) B.isi (by decide +kernel) (pa_cons (pv 0) (pa_cons (pe_bltn (v := .ty "tuple") (by rfl) B.tuple (by decide +kernel) rfl) pa_nil)))) (pe_callTy call_tuple_of (by rfl) B.tuple (by decide +kernel) (pa_cons (pe_lc (own := [("item", 1)]) (g := gName 1) (tt := tYes) rfl scLSame.nd (pi_tup (pv 0)) (blkOk_by (N := nLSame) (sc := defScope sLSame) (by decide +kernel)) (fun _ _ _ _ _ => pg_name (i := 1) scLSame.nd rfl (Or.inl rfl)) (fun _ _ _ _ _ => pts_nil) (fun _ _ _ _ _ => (pe_call GP hr rfl T.g T.F.kp T.b .nil pass0 (pa_cons (pv 1) pa_nil)))) pa_nil)) (pv 0)))))), ?_⟩
    have kd : PySem.W.kitOne K (.type u.cls) (.type "dict") = some false := by cases u <;> exact kit_ty (by dsimp only [D.cls]; decide +kernel)
    have kl : PySem.W.kitOne K (.type u.cls) (.type "list") = some false := by cases u <;> exact kit_ty (by dsimp only [D.cls]; decide +kernel)
    refine ⟨_, rfl, _, _, _, _, false, rfl, .ty "dict", hd.tyx, kd, _, rfl, iteF ?_⟩
    refine ⟨_, rfl, _, _, _, _, false, rfl, .ty "list", hd.tyx, kl, _, rfl, iteF ?_⟩
    refine ⟨_, rfl, _, _, _, _, u.isTup, rfl, .ty "tuple", hd.tyx, u.ktup, _, rfl, ?_⟩
    cases hd with
    | s h => exact iteF ⟨_, rfl, k _ H (Same.refl H) (.s h)⟩
    | i n => exact iteF ⟨_, rfl, k _ H (Same.refl H) (.i n)⟩
    | o => exact iteF ⟨_, rfl, k _ H (Same.refl H) .o⟩
    | @t p xs ds e h =>
      have hz' : sizeAll ds + 1 ≤ 4000 := by simpa [D.size] using hz
      have ll := len_size ds
      have lx := h.length
      have hn' : depAll ds + 1 ≤ n := by simpa [D.dep] using hn
      refine iteT ⟨_, rfl, p, rfl, ⟨_, SqT.of e⟩, fun W hW => ?_⟩
      refine lc_tup (K := K) (xs := xs) (fun i H' => Same H H' ∧ ∃ ys, H' W = some (.lst ys) ∧ DsAt H' ys (ds.take i)) ⟨same_upd hW, [], upd_same, by rw [List.take_zero]; exact .nil⟩ (fun i H' _ q => SqT.of (q.1 _ _ e)) ?_ ?_
      · rintro i x H' hx ⟨sI, ys, eW, hys⟩
        obtain ⟨u, hu, hxu⟩ := h.at_ hx
        have mu := List.mem_of_getElem? hu
        have du : u.dep + 1 ≤ n := by
          have q := dep_mem mu
          omega
        have zu : u.size ≤ 4000 := by
          have q := size_mem mu
          omega
        have ly := hys.length
        rw [List.length_take] at ly
        refine ⟨rfl, x, rfl, hsp x u _ _ (hxu.mono (TK.of_same sI)) du zu fun v' H2 s2 hv' => ⟨ys, s2 _ _ eW, by rw [sizeLine_eq]; omega, same_over (sI.trans s2) hW, ys ++ [v'], upd_same, ?_⟩⟩
        have tkw : TK H2 (upd H2 W (.lst (ys ++ [v']))) := TK.upd_lst (s2 _ _ eW)
        rw [List.take_add_one, hu]
        exact (hys.mono ((TK.of_same s2).trans tkw)).append (.cons (hv'.mono tkw) .nil)
      · rintro H' ⟨sI, ys, eW, hys⟩
        rw [lx, List.take_length] at hys
        refine ⟨W, ys, rfl, .inl ⟨SqL.of eW, fun q nq => k _ _ (sI.trans (same_upd nq)) (.t upd_same (hys.mono (TK.upd_new nq)))⟩⟩
theorem ok_same {f : Addr} {fd : FuncData} (T : Top K mg "_law_same" sLSame pLSame f fd) (B : Blt mg) : ∀ n : Nat, FnOk P w K mg base CX0 (1 + n) f fd pLSame (spSame n)
  | 0 => same_step T B fn_vac fun _ _ _ _ _ h _ _ => absurd h (by omega)
  | n + 1 => same_step (m := 1 + n) T B (ok_same T B n) fun v u H Q h1 h2 h3 h4 => ⟨v, u, rfl, h1, by omega, h3, h4⟩
/-! ### knots by the law -/
def innerD : D → List D
  | .t (.s nm :: r) => if nm = "is" then [] else r.filter D.isTup
  | _ => []
def spInner : Sp := fun vs H Q _ => ∃ v u, vs = [v] ∧ DAt H v u ∧ Fm u ∧ u.size ≤ 4000 ∧ (∀ p ∈ u.parts, p.isTup = true) ∧ ∀ (L : Addr) (us : List V) (H' : Hp), Same H H' → H L = none → H' L = some (.lst us) → DsAt H' us u.parts → Q (.ref L) H'
theorem filt_parts {nm : Str} {r : List D} (f : Fm (.t (.s nm :: r))) (h : ∀ p ∈ (D.t (.s nm :: r)).parts, p.isTup = true) (hne : ¬ nm = "is") : r.filter D.isTup = (D.t (.s nm :: r)).parts := by
  generalize hu : D.t (.s nm :: r) = u at f h ⊢
  cases f with
  | is _ => injection hu with hu; injection hu with h1 _; injection h1 with h1; exact absurd h1 hne
  | om => injection hu with hu; injection hu with _ hu; subst hu; simp [D.parts] at h ⊢; exact h
  | um => injection hu with hu; injection hu with _ hu; subst hu; simp [D.parts] at h ⊢; exact h
  | tm => injection hu with hu; injection hu with _ hu; subst hu; simp [D.parts] at h ⊢; simp [h.1, h.2]
  | tu _ => injection hu with hu; injection hu with _ hu; subst hu; simp [D.parts] at h ⊢; simp [D.isTup, h]; simpa [D.isTup] using h
  | ou _ => injection hu with hu; injection hu with _ hu; subst hu; simp [D.parts] at h ⊢; simp [List.filter, D.isTup] at h ⊢; simp [h.1, h.2]
  | uu _ => injection hu with hu; injection hu with _ hu; subst hu; simp [D.parts] at h ⊢; simp [List.filter, D.isTup] at h ⊢; simp [h.1, h.2]
  | ct _ => injection hu with hu; injection hu with _ hu; subst hu; simp [D.parts] at h ⊢; simp [List.filter, D.isTup] at h ⊢; simp [h.1, h.2]
end
end S4

namespace S4
open PySem PySem.Spec PyProof.Rows L2 LamX KT
open PySem.W (Frag)
theorem tl_tup {p : D} (h : p.tl.isSome = true) : p.isTup = true := by
  cases p with
  | t l => rfl
  | s z => simp [D.tl] at h
  | i n => simp [D.tl] at h
  | o => simp [D.tl] at h
theorem nodesAll_sum (l : List D) : (nodesAll l).length = (l.map fun p => p.nodes.length).sum := by
  induction l with
  | nil => rfl
  | cons d r ih => simp only [nodesAll, List.length_append, ih, List.map_cons, List.sum_cons]
theorem sum_rev (l : List Nat) : l.reverse.sum = l.sum := List.sum_reverse l
theorem nodes_sum {u : D} (f : Fm u) : u.nodes.length = 1 + (u.parts.map fun p => p.nodes.length).sum := by
  rw [f.nodes, List.length_cons, nodesAll_sum, List.map_reverse, sum_rev]
  omega
def cutsN (u : D) : Nat := (u.nodes.filter D.isCut).length
theorem nodesAll_cuts (l : List D) : ((nodesAll l).filter D.isCut).length = (l.map cutsN).sum := by
  induction l with
  | nil => rfl
  | cons d r ih => simp only [nodesAll, List.filter_append, List.length_append, ih, List.map_cons, List.sum_cons, cutsN]
theorem cuts_sum {u : D} (f : Fm u) : cutsN u = (if u.isCut = true then 1 else 0) + (u.parts.map cutsN).sum := by
  unfold cutsN
  rw [f.nodes, List.filter_cons]
  have e : ((nodesAll u.parts.reverse).filter D.isCut).length = (u.parts.map cutsN).sum := by rw [nodesAll_cuts, List.map_reverse, sum_rev]
  by_cases c : u.isCut = true
  · rw [if_pos c, if_pos c, List.length_cons, e]
    show _ = 1 + (u.parts.map cutsN).sum
    omega
  · rw [if_neg c, if_neg c, e]
    show _ = 0 + (u.parts.map cutsN).sum
    omega
theorem ints_sum (l : List Nat) : ((l.map fun n : Nat => (n : Int)).sum : Int) = ((l.sum : Nat) : Int) := by
  induction l with
  | nil => rfl
  | cons a r ih => rw [List.map_cons, List.sum_cons, List.sum_cons, ih]; omega
section
variable {P : Program} {w : World} {K : Frag} {mg : Str → Option Value} {base : Heap}
def spLKnots (n : Nat) : Sp := fun vs H Q _ => ∃ v u, vs = [v] ∧ DAt H v u ∧ u.tl.isSome = true ∧ u.dep ≤ n ∧ u.size ≤ 4000 ∧ ∀ H', Same H H' → Q (.int (u.nodes.length : Nat)) H'
theorem dep_lt {u : D} (f : Fm u) : ∀ p ∈ u.parts, p.dep + 1 ≤ u.dep := by
  have e1 : ("over made" : Str) ≠ "is" := by decide
  have e2 : ("under made" : Str) ≠ "is" := by decide
  have e3 : ("then made" : Str) ≠ "then used" := by decide
  cases f <;> simp [D.parts, D.dep, depAll, e1, e2, e3] <;> omega
def spLCuts (n : Nat) : Sp := fun vs H Q _ => ∃ v u, vs = [v] ∧ DAt H v u ∧ u.tl.isSome = true ∧ u.dep ≤ n ∧ u.size ≤ 4000 ∧ ∀ H', Same H H' → Q (.int (cutsN u : Nat)) H'
end
end S4

namespace S4
open PySem PySem.Spec PyProof.Rows L2 LamX KT
open PySem.W (Frag)
/-- a type spelt out -/
def opD : Ty → D
  | .w z => .t [.s "is", .s z]
  | .n .ov a b => .t [.s "over made", .t [.s "over used", .i 0, opD b, opD a]]
  | .n .un a b => .t [.s "under made", .t [.s "under used", .i 0, opD a, opD b]]
  | .n .th a b => .t [.s "then used", .i 0, .t [.s "then made", opD a, opD b]]
theorem opD_tl (t : Ty) (h : t.wok) : (opD t).tl = some ([t], t) := by
  induction t with
  | w z =>
    exact tl_of (.is (k := .w z) (by simp only [D.ty]; rw [if_pos (isWB_of h)]))
  | n g a b i j =>
    have i := i h.1
    have j := j h.2
    cases g with
    | ov => exact tl_of (.om (rx := ([.n .ov a b, b], a)) (tl_of (.us (by decide) j i (by simp [usedAt]))) (by simp [madeO]))
    | un => exact tl_of (.um (rx := ([a, .n .un a b], b)) (tl_of (.us (by decide) i j (by simp [usedAt]))) (by simp [madeU]))
    | th => exact tl_of (.tu (ry := ([a, b], .n .th a b)) (tl_of (.tm i j)) (by simp [thenU, thenM]))
theorem opD_size (t : Ty) : (opD t).size = 8 * t.signs + 3 ∧ (opD t).dep ≤ 2 * t.signs + 1 := by
  induction t with
  | w z => simp [opD, D.size, sizeAll, D.dep, depAll, Ty.signs]
  | n g a b i j => cases g <;> simp only [opD, D.size, sizeAll, D.dep, depAll, Ty.signs] <;> omega
theorem txtIs (z : Str) (h : z = "is" ∨ z = "over made" ∨ z = "under made" ∨ z = "then made" ∨ z = "over used" ∨ z = "under used" ∨ z = "then used" ∨ z = "cut") : TxtOk z := by
  rcases h with h | h | h | h | h | h | h | h <;> subst h <;> exact ⟨by decide +kernel, by decide +kernel⟩
theorem dAt_is {H : Hp} {p : Addr} {x : V} {d : D} (e : H p = some (.tup [.str "is", x])) (h : DAt H x d) : DAt H (.ref p) (.t [.s "is", d]) := .t e (.cons (.s (txtIs _ (by simp))) (.cons h .nil))
theorem dAt_2 {H : Hp} {p : Addr} {nm : Str} {x : V} {d : D} (ok : TxtOk nm) (e : H p = some (.tup [.str nm, x])) (h : DAt H x d) : DAt H (.ref p) (.t [.s nm, d]) := .t e (.cons (.s ok) (.cons h .nil))
theorem dAt_3 {H : Hp} {p : Addr} {nm : Str} {x y : V} {d e' : D} (ok : TxtOk nm) (e : H p = some (.tup [.str nm, x, y])) (h : DAt H x d) (h' : DAt H y e') : DAt H (.ref p) (.t [.s nm, d, e']) := .t e (.cons (.s ok) (.cons h (.cons h' .nil)))
theorem dAt_4 {H : Hp} {p : Addr} {nm : Str} {i : Int} {x y : V} {d e' : D} (ok : TxtOk nm) (e : H p = some (.tup [.str nm, .int i, x, y])) (h : DAt H x d) (h' : DAt H y e') : DAt H (.ref p) (.t [.s nm, .i i, d, e']) := .t e (.cons (.s ok) (.cons (.i i) (.cons h (.cons h' .nil))))
section
variable {P : Program} {w : World} {K : Frag} {mg : Str → Option Value} {base : Heap}
def spOpened (n : Nat) : Sp := fun vs H Q _ => ∃ v t, vs = [v] ∧ TyAt H v t ∧ t.signs ≤ n ∧ ∀ v' H', Same H H' → DAt H' v' (opD t) → Q v' H'
end
end S4

namespace S4
open PySem PySem.Spec PyProof.Rows L2 LamX KT
open PySem.W (Frag)
theorem ty_dep_small (t : Ty) : t.d.dep ≤ t.signs ∧ t.d.size ≤ 4 * t.signs + 1 := by
  induction t with
  | w z => simp [Ty.d, D.dep, D.size, Ty.signs]
  | n g a b i j => simp only [Ty.d, D.dep, depAll, D.size, sizeAll, Ty.signs]; omega
theorem DAt.but {a : Addr} {n : Nat} {H H' : Hp} {v : V} {d : D} (h : DAt H v d) (k : KeepBut a H H') (p : PurseAt H a n) : DAt H' v d := h.mono (TK.of_keepBut k p)
section
variable {P : Program} {w : World} {K : Frag} {mg : Str → Option Value} {base : Heap}
def spLSg (n : Nat) : Sp := fun vs H Q _ => ∃ v t, vs = [v] ∧ TyAt H v t ∧ t.d.dep ≤ n ∧ Q (.int t.signs) H
/-- what the builders of derivations need -/
structure Drawn (H : Hp) (a L : Addr) (n : Nat) (zs : List Str) : Prop where
  p : PurseAt H a n
  ne : L ≠ a
  l : H L = some (.lst (zs.map V.str))
  z : Plains zs
theorem Drawn.but {H H' : Hp} {a L : Addr} {n m : Nat} {zs : List Str} (h : Drawn H a L n zs) (k : KeepBut a H H') (p : PurseAt H' a m) : Drawn H' a L m zs := ⟨p, h.ne, k _ _ h.l h.ne, h.z⟩
theorem Drawn.same {H H' : Hp} {a L : Addr} {n : Nat} {zs : List Str} (h : Drawn H a L n zs) (s : Same H H') : Drawn H' a L n zs := ⟨by obtain ⟨p0, p1, p2, p3, e, r⟩ := h.p; exact ⟨p0, p1, p2, p3, s _ _ e, r⟩, h.ne, s _ _ h.l, h.z⟩
def spMinor : Sp := fun vs H Q _ => ∃ (a L : Addr) (n : Nat) (zs : List Str) (x : V) (t : Ty), vs = [.ref a, .ref L, x] ∧ Drawn H a L n zs ∧ n ≤ 300000000000 ∧ TyAt H x t ∧ t.d.dep ≤ 60 ∧
  ∀ v' d rm H', KeepBut a H H' → PurseAt H' a (n + 10) → DAt H' v' d → d.tl = some (rm, t) → 1 ≤ rm.length → rm.length ≤ 2 → d.dep ≤ max (t.d.dep + 2) 5 → d.size ≤ t.d.size + 20 → Q v' H'
end
end S4

namespace S4
open PySem PySem.Spec PyProof.Rows L2 LamX KT
open PySem.W (Frag)
/-- the sizes of types, together -/
def tsz (l : List Ty) : Nat := (l.map fun t => t.d.size).sum
def wt (r : Told) : Nat := tsz r.1 + r.2.d.size
theorem tsz_app (l r : List Ty) : tsz (l ++ r) = tsz l + tsz r := by simp [tsz]
theorem tsz_cons (a : Ty) (r : List Ty) : tsz (a :: r) = a.d.size + tsz r := by simp [tsz]
theorem tsz_nil : tsz [] = 0 := rfl
theorem size_n (g : Sg) (a b : Ty) : (Ty.n g a b).d.size = a.d.size + b.d.size + 2 := by
  simp only [Ty.d, D.size, sizeAll]
  omega
theorem tsz_at : ∀ {l : List Ty} {n : Nat} {k : Ty}, l[n]? = some k → tsz l = tsz (l.take n) + k.d.size + tsz (l.drop (n + 1))
  | [], n, k, h => by simp at h
  | a :: r, 0, k, h => by
    obtain rfl := Option.some.inj (show some a = some k from h)
    rw [tsz_cons]
    simp [tsz_nil]
  | a :: r, n + 1, k, h => by
    have q := tsz_at (l := r) (n := n) (k := k) (by simpa using h)
    rw [tsz_cons, List.take_succ_cons, List.drop_succ_cons, tsz_cons, q]
    omega
theorem tsz_mem {k : Ty} : ∀ {l : List Ty}, k ∈ l → k.d.size ≤ tsz l
  | [], h => by cases h
  | a :: r, h => by
    rw [tsz_cons]
    rcases List.mem_cons.mp h with e | q
    · rw [e]; omega
    · have := tsz_mem q; omega
theorem tsz_last : ∀ {l : List Ty}, l ≠ [] → tsz l = tsz l.dropLast + (l.getLastD (.w "")).d.size
  | [], h => absurd rfl h
  | [a], _ => by simp [tsz_cons, tsz_nil]
  | a :: b :: r, _ => by
    have q := tsz_last (l := b :: r) (by simp)
    rw [tsz_cons, q, List.dropLast_cons_cons, tsz_cons]
    simp only [List.getLastD_cons]
    omega
theorem wt_madeO {x r : Told} (h : madeO x = some r) : wt r = wt x + 2 ∧ r.1 ≠ [] := by
  obtain ⟨row, goal⟩ := x
  simp only [madeO] at h
  split at h
  · cases h
  · rename_i c
    cases h
    have hne : row ≠ [] := by rintro rfl; simp at c
    have q := tsz_last hne
    refine ⟨?_, fun z => ?_⟩
    · simp only [wt, size_n]
      omega
    · have l := congrArg List.length z
      rw [List.length_dropLast, List.length_nil] at l
      omega
theorem wt_madeU {x r : Told} (h : madeU x = some r) : wt r = wt x + 2 ∧ r.1 ≠ [] := by
  obtain ⟨row, goal⟩ := x
  unfold madeU at h
  split at h
  · rename_i a b r' g' he
    cases he
    cases h
    refine ⟨?_, by simp⟩
    simp only [wt, size_n, tsz_cons]
    omega
  · cases h
theorem wt_thenM (x y : Told) : wt (thenM x y) = wt x + wt y + 2 := by
  simp only [wt, thenM, tsz_app, size_n]
  omega
theorem wt_usedAt {nm : Str} {p : Int} {x y r : Told} (h : usedAt nm p x y = some r) : wt r ≤ wt x + wt y + 2 ∧ (x.1 ≠ [] → r.1 ≠ []) := by
  unfold usedAt at h
  split at h
  · split at h
    · cases h
    · rename_i k hk
      have q := tsz_at hk
      split at h
      · cases h
        refine ⟨?_, fun _ => by simp⟩
        simp only [wt, tsz_app, tsz_cons, tsz_nil, size_n]
        omega
      · split at h
        · cases h
          refine ⟨?_, fun _ => by simp⟩
          simp only [wt, tsz_app, tsz_cons, tsz_nil, size_n]
          omega
        · split at h
          · cases h
            refine ⟨?_, fun z => by simp [z]⟩
            simp only [wt, tsz_app]
            omega
          · cases h
  · cases h
theorem wt_cut {p : Int} {x y r : Told} (h : usedAt "cut" p x y = some r) : wt r + 2 * x.2.d.size = wt x + wt y := by
  unfold usedAt at h
  split at h
  · split at h
    · cases h
    · rename_i k hk
      have q := tsz_at hk
      have n1 : ¬ ("cut" : Str) = "over used" := by decide
      have n2 : ¬ ("cut" : Str) = "under used" := by decide
      simp only [n1, n2, if_false] at h
      split at h
      · rename_i e
        subst e
        cases h
        simp only [wt, tsz_app]
        omega
      · cases h
  · cases h
theorem wt_thenU {p : Int} {y r : Told} (h : thenU p y = some r) : wt r = wt y + 2 ∧ r.1 ≠ [] := by
  unfold thenU at h
  split at h
  · split at h
    · rename_i a b ha hb
      cases h
      have q1 := tsz_at ha
      have hb' : (y.1.drop (p.toNat + 1))[0]? = some b := by rw [List.getElem?_drop]; exact hb
      have q2 := tsz_at hb'
      rw [List.take_zero, tsz_nil, List.drop_drop] at q2
      refine ⟨?_, by simp⟩
      simp only [wt, tsz_app, tsz_cons, tsz_nil, size_n]
      have e : p.toNat + 1 + (0 + 1) = p.toNat + 2 := by omega
      rw [e] at q2
      omega
    · cases h
  · cases h
/-- what is told weighs at most twice what tells it -/
theorem wt_size : ∀ (n : Nat) (u : D) (r : Told), u.size ≤ n → u.tl = some r → wt r ≤ 2 * u.size := by
  intro n
  induction n with
  | zero => intro u r h; have := u.size_pos; omega
  | succ n ih =>
    intro u r hz h
    cases tl_inv h with
    | @is x k hk =>
      have e := D.ty_d hk
      simp only [D.size, sizeAll, wt, tsz_cons, tsz_nil, e]
      omega
    | om h1 h2 =>
      simp only [D.size, sizeAll] at hz
      have q := ih _ _ (by omega) h1
      have q2 := (wt_madeO h2).1
      simp only [D.size, sizeAll]
      omega
    | um h1 h2 =>
      simp only [D.size, sizeAll] at hz
      have q := ih _ _ (by omega) h1
      have q2 := (wt_madeU h2).1
      simp only [D.size, sizeAll]
      omega
    | @tm x y rx ry h1 h2 =>
      simp only [D.size, sizeAll] at hz
      have q := ih _ _ (by omega) h1
      have q' := ih _ _ (by omega) h2
      have q2 := wt_thenM rx ry
      simp only [D.size, sizeAll]
      omega
    | tu h1 h2 =>
      simp only [D.size, sizeAll] at hz
      have q := ih _ _ (by omega) h1
      have q2 := (wt_thenU h2).1
      simp only [D.size, sizeAll]
      omega
    | @us nm p x y _ _ _ c h1 h2 h3 =>
      simp only [D.size, sizeAll] at hz
      have q := ih _ _ (by omega) h1
      have q' := ih _ _ (by omega) h2
      have q2 := (wt_usedAt h3).1
      simp only [D.size, sizeAll]
      omega
end S4

namespace S4
open PySem PySem.Spec PyProof.Rows L2 LamX KT
open PySem.W (Frag)
def sw3 {α : Type} : List α → List α
  | [a, b, c] => [c, b, a]
  | _ => []
theorem sw3_vals {zs : List V} {ws : List Value} (h : Vals zs ws) : Vals (sw3 zs) (sw3 ws) := by
  cases h with
  | nil => exact .nil
  | cons a h =>
    cases h with
    | nil => exact .nil
    | cons b h =>
      cases h with
      | nil => exact .nil
      | cons c h =>
        cases h with
        | nil => exact .cons c (.cons b (.cons a .nil))
        | cons _ _ => exact .nil
theorem SameDt.tyd {H : Hp} {v v' : V} {t : Ty} (h : TyAt H v t) : TyAt H v' t → SameDt H t.d.dep v v' := by
  induction h generalizing v' with
  | w h =>
    intro h'
    cases h'
    exact .scl (.s _)
  | @n p g x y a b e h1 h2 i j =>
    intro h'
    cases h' with
    | @n p' _ x' y' _ _ e' k1 k2 =>
      rw [dep_n]
      refine .inr ⟨p, p', _, _, rfl, rfl, .inr ⟨e, e'⟩, rfl, by show 3 ≤ 1000000; omega, fun i' u u' h3 h4 => ?_⟩
      match i', h3, h4 with
      | 0, h3, h4 =>
        obtain rfl := Option.some.inj h3
        obtain rfl := Option.some.inj h4
        exact .scl (.s _)
      | 1, h3, h4 =>
        obtain rfl := Option.some.inj h3
        obtain rfl := Option.some.inj h4
        exact (i k1).le (by omega)
      | 2, h3, h4 =>
        obtain rfl := Option.some.inj h3
        obtain rfl := Option.some.inj h4
        exact (j k2).le (by omega)
      | n + 3, h3, h4 => exact absurd h3 (by simp)
theorem SameDt.lst {H : Hp} {p q : Addr} {xs ys : List V} {k : Nat} (e : H p = some (.lst xs)) (e' : H q = some (.lst ys)) (l : xs.length = ys.length) (m : xs.length ≤ 1000000) (h : ∀ (i : Nat) (x y : V), xs[i]? = some x → ys[i]? = some y → SameDt H k x y) : SameDt H (k + 1) (.ref p) (.ref q) := .inr ⟨p, q, xs, ys, rfl, rfl, .inl ⟨e, e'⟩, l, m, h⟩
theorem SameDt.tup {H : Hp} {p q : Addr} {xs ys : List V} {k : Nat} (e : H p = some (.tup xs)) (e' : H q = some (.tup ys)) (l : xs.length = ys.length) (m : xs.length ≤ 1000000) (h : ∀ (i : Nat) (x y : V), xs[i]? = some x → ys[i]? = some y → SameDt H k x y) : SameDt H (k + 1) (.ref p) (.ref q) := .inr ⟨p, q, xs, ys, rfl, rfl, .inr ⟨e, e'⟩, l, m, h⟩
theorem two_same {H : Hp} {k : Nat} {a b a' b' : V} (h : SameDt H k a a') (h' : SameDt H k b b') : ∀ (i : Nat) (x y : V), [a, b][i]? = some x → [a', b'][i]? = some y → SameDt H k x y := by
  intro i x y h1 h2
  match i, h1, h2 with
  | 0, h1, h2 =>
    obtain rfl := Option.some.inj h1
    obtain rfl := Option.some.inj h2
    exact h
  | 1, h1, h2 =>
    obtain rfl := Option.some.inj h1
    obtain rfl := Option.some.inj h2
    exact h'
  | n + 2, h1, h2 => exact absurd h1 (by simp)
theorem SameDt.row {H : Hp} {p q : Addr} {us vs : List V} {ts : List Ty} {k : Nat} (e : H p = some (.lst us)) (e' : H q = some (.lst vs)) (h : Tys H us ts) (h' : Tys H vs ts) (m : ts.length ≤ 4000) (dk : ∀ t ∈ ts, t.d.dep ≤ k) : SameDt H (k + 1) (.ref p) (.ref q) := by
  refine .lst e e' (by rw [h.length, h'.length]) (by rw [h.length]; omega) fun i x y h1 h2 => ?_
  obtain ⟨t, ht, hx⟩ := h.at_ h1
  obtain ⟨t', ht', hy⟩ := h'.at_ h2
  obtain rfl := Option.some.inj (ht.symm.trans ht')
  exact (SameDt.tyd hx hy).le (dk _ (List.mem_of_getElem? ht))
/-- what is told twice is told alike -/
theorem told_same {H : Hp} {p q L M : Addr} {g g' : V} {us vs : List V} {r : Told} {k : Nat} (e : H p = some (.tup [.ref L, g])) (e' : H q = some (.tup [.ref M, g'])) (eL : H L = some (.lst us)) (eM : H M = some (.lst vs)) (h : Tys H us r.1) (h' : Tys H vs r.1) (hg : TyAt H g r.2) (hg' : TyAt H g' r.2) (m : r.1.length ≤ 4000) (dk : ∀ t ∈ r.1, t.d.dep ≤ k) (dg : r.2.d.dep ≤ k) : SameDt H (k + 2) (.ref p) (.ref q) :=
  .tup e e' rfl (by show 2 ≤ _; omega) (two_same (.row eL eM h h' m dk) ((SameDt.tyd hg hg').le (by omega)))
theorem row_dp {K : Frag} {H : Hp} {L : Addr} {us : List V} {ts : List Ty} (e : H L = some (.lst us)) (h : Tys H us ts) (dk : ∀ t ∈ ts, t.d.dep ≤ 60) : Dp K H (.ref L) (.list (ts.map fun t => t.d.py)) ∧ SeqAt.shaped (.list (ts.map fun t => t.d.py)) = true := by
  obtain ⟨a1, a2⟩ := tys_dp (K := K) h
  refine ⟨.lst (SqL.of e) a1, ?_⟩
  have q := depAll_py (ts.map fun t => t.d.py) 60 fun x hx => by
    obtain ⟨t, ht, rfl⟩ := List.mem_map.mp hx
    rw [dep_py]
    exact dk t ht
  unfold SeqAt.shaped
  have c : (PyData.list (ts.map fun t => t.d.py)).canLay0 = true := by simp only [PyData.canLay0, canAll_py _ a2]
  have dd : (PyData.list (ts.map fun t => t.d.py)).depth ≤ 64 := by simp only [PyData.depth]; omega
  rw [c, Bool.true_and]
  exact decide_eq_true dd
theorem ty_dp {K : Frag} {H : Hp} {x : V} {t : Ty} (h : TyAt H x t) (dk : t.d.dep ≤ 60) : Dp K H x t.d.py ∧ SeqAt.shaped t.d.py = true := ⟨(DAt.py (K := K) h.d).1, DAt.shaped (K := K) h.d (by omega)⟩
theorem eqv_rows (l r : List Ty) : PyData.eqv (.list (l.map fun t => t.d.py)) (.list (r.map fun t => t.d.py)) = decide (l = r) := by
  simp only [PyData.eqv, eqvAll_ty]
/-- a row and a goal -/
def PR (H : Hp) (x : V) : Prop := ∃ ts t, Res (fun _ => True) H x (some (ts, t)) ∧ RowOk ts ∧ t.d.dep ≤ 60 ∧ t.d.size ≤ 1000000
theorem PR.same {H H' : Hp} {x : V} (h : PR H x) (s : Same H H') : PR H' x := by
  obtain ⟨ts, t, h1, h2⟩ := h
  exact ⟨ts, t, h1.same (fun _ h => h) s, h2⟩
theorem pr_mk {H : Hp} {p R : Addr} {g : V} {us : List V} {ts : List Ty} {t : Ty} (ep : H p = some (.tup [.ref R, g])) (eR : H R = some (.lst us)) (hT : Tys H us ts) (hg : TyAt H g t) (ro : RowOk ts) (dt : t.d.dep ≤ 60) (zt : t.d.size ≤ 1000000) : PR H (.ref p) := ⟨ts, t, ⟨p, R, us, g, rfl, trivial, ep, eR, hT, hg⟩, ro, dt, zt⟩
theorem Tys.rev {H : Hp} {us : List V} {ts : List Ty} (h : Tys H us ts) : Tys H us.reverse ts.reverse := by
  induction h with
  | nil => exact .nil
  | cons a _ ih => rw [List.reverse_cons, List.reverse_cons]; exact ih.append (.cons a .nil)
/-- a row, not empty, and a goal -/
def RG (H : Hp) (R : Addr) (g : V) : Prop := ∃ us ts t, H R = some (.lst us) ∧ Tys H us ts ∧ TyAt H g t ∧ RowOk ts ∧ ts ≠ [] ∧ t.d.dep ≤ 60 ∧ t.d.size ≤ 1000000
section
variable {P : Program} {w : World} {K : Frag} {mg : Str → Option Value} {base : Heap}
def spOneRight : Sp := fun vs H Q _ => ∃ (a L : Addr) (v : V) (d : D) (r : Told), vs = [.ref a, .ref L, v] ∧ DAt H v d ∧ d.tl = some r ∧ r.1 ≠ [] ∧ r.1.length < 6 ∧ r.2.signs < 5 ∧ d.dep ≤ 26 ∧ d.size ≤ 3000 ∧ ∀ H', Same H H' → Q (.bl true) H'
end
end S4

namespace S4
open PySem PySem.Spec PyProof.Rows L2 LamX KT
open PySem.W (Frag)
/-- the deep one -/
def dpD (z : Str) : Nat → D
  | 0 => .t [.s "is", .s z]
  | n + 1 => .t [.s "over made", .t [.s "over used", .i 0, .t [.s "is", .s z], dpD z n]]
def dpT (z : Str) : Nat → Ty
  | 0 => .w z
  | n + 1 => .n .ov (dpT z n) (.w z)
theorem dp_tl {z : Str} (h : IsW z) : ∀ n, (dpD z n).tl = some ([dpT z n], dpT z n)
  | 0 => opD_tl (.w z) h
  | n + 1 => tl_of (.om (rx := ([dpT z (n + 1), .w z], dpT z n)) (tl_of (.us (by decide) (opD_tl (.w z) h) (dp_tl h n) (by simp [usedAt, dpT]))) (by simp [madeO, dpT]))
theorem dp_size (z : Str) : ∀ n, (dpD z n).size = 8 * n + 3 ∧ (dpD z n).dep = 2 * n + 1 ∧ (dpT z n).d.dep = n ∧ (dpT z n).d.size = 3 * n + 1
  | 0 => by simp [dpD, dpT, D.size, sizeAll, D.dep, depAll, Ty.d]
  | n + 1 => by
    obtain ⟨a, b, c, d⟩ := dp_size z n
    refine ⟨?_, ?_, ?_, ?_⟩
    · simp only [dpD, D.size, sizeAll, a]; omega
    · simp only [dpD, D.dep, depAll, b]; omega
    · simp only [dpT, dep_n, c]; simp only [Ty.d, D.dep]; omega
    · simp only [dpT, size_n, d]; simp only [Ty.d, D.size]; omega
theorem dp_nodes {z : Str} (h : IsW z) : ∀ n, (dpD z n).nodes.length = 3 * n + 1 ∧ cutsN (dpD z n) = 0
  | 0 => by
    have f : Fm (.t [.s "is", .s z]) := (allK_fm (tl_allK _ _ _ (Nat.le_refl _) (dp_tl h 0))).1
    have e1 := nodes_sum f
    have e2 := cuts_sum f
    have ep : (D.t [.s "is", .s z]).parts = [] := by simp [D.parts]
    have ec : (D.t [.s "is", .s z]).isCut = false := by
        show decide (("is" : Str) = "cut") = false
        decide +kernel
    rw [ep] at e1 e2
    rw [ec] at e2
    exact ⟨e1, e2⟩
  | n + 1 => by
    obtain ⟨i, j⟩ := dp_nodes h n
    obtain ⟨i0, j0⟩ : (D.t [.s "is", .s z]).nodes.length = 1 ∧ cutsN (.t [.s "is", .s z]) = 0 := by
      have f : Fm (.t [.s "is", .s z]) := (allK_fm (tl_allK _ _ _ (Nat.le_refl _) (dp_tl h 0))).1
      have e1 := nodes_sum f
      have e2 := cuts_sum f
      have ep : (D.t [.s "is", .s z]).parts = [] := by simp [D.parts]
      have ec : (D.t [.s "is", .s z]).isCut = false := by
        show decide (("is" : Str) = "cut") = false
        decide +kernel
      rw [ep] at e1 e2
      rw [ec] at e2
      exact ⟨e1, e2⟩
    have f1 : Fm (.t [.s "over used", .i 0, .t [.s "is", .s z], dpD z n]) := .ou (Int.le_refl 0)
    have f2 : Fm (.t [.s "over made", .t [.s "over used", .i 0, .t [.s "is", .s z], dpD z n]]) := .om
    have a1 := nodes_sum f1
    have a2 := nodes_sum f2
    have b1 := cuts_sum f1
    have b2 := cuts_sum f2
    have p1 : (D.t [.s "over used", .i 0, .t [.s "is", .s z], dpD z n]).parts = [.t [.s "is", .s z], dpD z n] := by simp [D.parts]
    have p2 : (D.t [.s "over made", .t [.s "over used", .i 0, .t [.s "is", .s z], dpD z n]]).parts = [.t [.s "over used", .i 0, .t [.s "is", .s z], dpD z n]] := by
      have e1 : ¬ ("over made" : Str) = "is" := by decide
      simp [D.parts, e1]
    have c1 : (D.t [.s "over used", .i 0, .t [.s "is", .s z], dpD z n]).isCut = false := by
      show decide (("over used" : Str) = "cut") = false
      decide +kernel
    have c2 : (D.t [.s "over made", .t [.s "over used", .i 0, .t [.s "is", .s z], dpD z n]]).isCut = false := by
      show decide (("over made" : Str) = "cut") = false
      decide +kernel
    rw [p1] at a1 b1
    rw [p2] at a2 b2
    rw [c1] at b1
    rw [c2] at b2
    simp only [List.map_cons, List.map_nil, List.sum_cons, List.sum_nil, i, j, i0, j0] at a1 b1
    simp only [List.map_cons, List.map_nil, List.sum_cons, List.sum_nil, a1, b1] at a2 b2
    exact ⟨by show (D.t _).nodes.length = _; rw [a2]; omega, by show cutsN (D.t _) = _; rw [b2]; decide⟩
theorem SameDt.d {H : Hp} : ∀ (n : Nat) {v v' : V} {u : D}, u.size ≤ n → n ≤ 4000 → DAt H v u → DAt H v' u → SameDt H u.dep v v' := by
  intro n
  induction n with
  | zero => intro v v' u h; have := u.size_pos; omega
  | succ n ih =>
    intro v v' u hz hn h h'
    cases h with
    | s h => cases h'; exact .scl (.s _)
    | i j => cases h'; exact .scl (.i _)
    | o => cases h'; exact .scl .o
    | @t p xs ds e hs =>
      cases h' with
      | @t p' ys _ e' hs' =>
        simp only [D.size] at hz
        have ll := len_size ds
        simp only [D.dep]
        refine .tup e e' (by rw [hs.length, hs'.length]) (by rw [hs.length]; omega) fun i x y h1 h2 => ?_
        obtain ⟨u, hu, hx⟩ := hs.at_ h1
        obtain ⟨u', hu', hy⟩ := hs'.at_ h2
        obtain rfl := Option.some.inj (hu.symm.trans hu')
        have mu := List.mem_of_getElem? hu
        have zm := size_mem mu
        have dm := dep_mem mu
        exact (ih (by omega) (by omega) hx hy).le dm
theorem lres_dp {K : Frag} {H : Hp} {v : V} {r : Told} (h : LRes H v (some r)) (s2 : ∀ t ∈ r.1, t.d.dep ≤ 60) (s3 : r.2.d.dep ≤ 60) : Dp K H v (.list [.list (r.1.map fun t => t.d.py), r.2.d.py]) ∧ SeqAt.shaped (.list [.list (r.1.map fun t => t.d.py), r.2.d.py]) = true := by
  obtain ⟨p, L, us, g, rfl, ep, eL, hT, hg⟩ := h
  obtain ⟨a1, a2⟩ := tys_dp (K := K) hT
  obtain ⟨b1, b2, _⟩ := DAt.py (K := K) hg.d
  refine ⟨.lst (SqL.of ep) (.cons (.lst (SqL.of eL) a1) (.cons b1 .nil)), ?_⟩
  have c : (PyData.list [.list (r.1.map fun t => t.d.py), r.2.d.py]).canLay0 = true := by simp only [PyData.canLay0, PyData.canLayAll0, canAll_py _ a2, b2, Bool.and_self]
  have dd : (PyData.list [.list (r.1.map fun t => t.d.py), r.2.d.py]).depth ≤ 64 := by
    have q := depAll_py (r.1.map fun t => t.d.py) 60 fun x hx => by
      obtain ⟨t, ht, rfl⟩ := List.mem_map.mp hx
      rw [dep_py]
      exact s2 t ht
    have q2 : r.2.d.py.depth ≤ 60 := by rw [dep_py]; exact s3
    simp only [PyData.depth, PyData.depthAll]
    omega
  unfold SeqAt.shaped
  rw [c, Bool.true_and]
  exact decide_eq_true dd
theorem eqv_lres (a b : Told) : PyData.eqv (.list [.list (a.1.map fun t => t.d.py), a.2.d.py]) (.list [.list (b.1.map fun t => t.d.py), b.2.d.py]) = decide (a = b) := by
  obtain ⟨a1, a2⟩ := a
  obtain ⟨b1, b2⟩ := b
  simp only [PyData.eqv, PyData.eqvAll, eqvAll_ty, eqv_ty, Prod.mk.injEq]
  by_cases h1 : a1 = b1 <;> by_cases h2 : a2 = b2 <;> simp [h1, h2]
section
variable {P : Program} {w : World} {K : Frag} {mg : Str → Option Value} {base : Heap}
def spLaw (K : Frag) : Sp := fun vs H Q _ => ∃ (a : Addr) (ns : List Int), vs = [.ref a] ∧ SqL K H a (ns.map V.int) ∧ ∀ H', Q (.bl true) H'
end
end S4

namespace S4
open PySem PySem.Spec PyProof.Rows L2 LamX KT
open PySem.W (Frag)
/-! ### expressions that come to data -/
/-- from any heap that keeps H0 the expression comes to something that bears d -/
def Yd (t : TE) (σ : L2.St) (H0 : Hp) (d : D) : Prop := ∀ H, Same H0 H → ∀ Q : VK, (∀ v H', Same H H' → DAt H' v d → Q v H') → t σ H Q
def YdA (t : TA) (σ : L2.St) (H0 : Hp) (ds : List D) : Prop := ∀ H, Same H0 H → ∀ Q : List V → Hp → Prop, (∀ vs H', Same H H' → DsAt H' vs ds → Q vs H') → t σ H Q
theorem Yd.mono {t : TE} {σ : L2.St} {H0 H1 : Hp} {d : D} (h : Yd t σ H0 d) (s : Same H0 H1) : Yd t σ H1 d := fun H s1 => h H (s.trans s1)
theorem yd_var {i : Nat} {σ : L2.St} {H0 : Hp} {v : V} {d : D} (e : σ[i]? = some (some v)) (h : DAt H0 v d) : Yd (tVar i) σ H0 d := fun H s Q q => ⟨v, e, q v H (Same.refl H) (h.mono (TK.of_same s))⟩
theorem yd_str {σ : L2.St} {H0 : Hp} {z : Str} (ok : TxtOk z) : Yd (tC (.str z)) σ H0 (.s z) := fun H _ Q q => q _ H (Same.refl H) (.s ok)
theorem yd_int {σ : L2.St} {H0 : Hp} {n : Int} : Yd (tC (.int n)) σ H0 (.i n) := fun H _ Q q => q _ H (Same.refl H) (.i n)
theorem yda_nil {σ : L2.St} {H0 : Hp} : YdA tNil σ H0 [] := fun H _ Q q => q [] H (Same.refl H) .nil
theorem yda_cons {t : TE} {tr : TA} {σ : L2.St} {H0 : Hp} {d : D} {ds : List D} (h : Yd t σ H0 d) (hr : YdA tr σ H0 ds) : YdA (tCons t tr) σ H0 (d :: ds) := fun H s Q q =>
  h H s _ fun v H1 s1 hv => hr H1 (s.trans s1) _ fun vs H2 s2 hvs => q (v :: vs) H2 (s1.trans s2) (.cons (hv.mono (TK.of_same s2)) hvs)
theorem yd_tup {t : TA} {σ : L2.St} {H0 : Hp} {ds : List D} (h : YdA t σ H0 ds) (l : ds.length ≤ 100) : Yd (tTup t) σ H0 (.t ds) := fun H s Q q =>
  h H s _ fun vs H1 s1 hvs => ⟨by rw [hvs.length, sizeLine_eq]; omega, fun p np => q _ _ (s1.trans (same_upd np)) (.t upd_same (hvs.mono (TK.upd_new np)))⟩
theorem yda1 {t : TE} {σ : L2.St} {H0 : Hp} {d : D} (h : Yd t σ H0 d) : YdA (tCons t tNil) σ H0 [d] := yda_cons h yda_nil
theorem yda2 {t u : TE} {σ : L2.St} {H0 : Hp} {d e : D} (h : Yd t σ H0 d) (h' : Yd u σ H0 e) : YdA (tCons t (tCons u tNil)) σ H0 [d, e] := yda_cons h (yda1 h')
theorem yda3 {t u w : TE} {σ : L2.St} {H0 : Hp} {d e f : D} (h : Yd t σ H0 d) (h' : Yd u σ H0 e) (h'' : Yd w σ H0 f) : YdA (tCons t (tCons u (tCons w tNil))) σ H0 [d, e, f] := yda_cons h (yda2 h' h'')
theorem yda4 {t u w x : TE} {σ : L2.St} {H0 : Hp} {d e f g : D} (h : Yd t σ H0 d) (h' : Yd u σ H0 e) (h'' : Yd w σ H0 f) (h3 : Yd x σ H0 g) : YdA (tCons t (tCons u (tCons w (tCons x tNil)))) σ H0 [d, e, f, g] := yda_cons h (yda3 h' h'' h3)
/-- a text, and others behind it -/
theorem yt2 {t : TE} {σ : L2.St} {H0 : Hp} {z : Str} {d : D} (ok : TxtOk z) (h : Yd t σ H0 d) : Yd (tTup (tCons (tC (.str z)) (tCons t tNil))) σ H0 (.t [.s z, d]) := yd_tup (yda2 (yd_str ok) h) (by simp)
theorem yt3 {t u : TE} {σ : L2.St} {H0 : Hp} {z : Str} {d e : D} (ok : TxtOk z) (h : Yd t σ H0 d) (h' : Yd u σ H0 e) : Yd (tTup (tCons (tC (.str z)) (tCons t (tCons u tNil)))) σ H0 (.t [.s z, d, e]) := yd_tup (yda3 (yd_str ok) h h') (by simp)
theorem yt4 {t u w : TE} {σ : L2.St} {H0 : Hp} {z : Str} {d e f : D} (ok : TxtOk z) (h : Yd t σ H0 d) (h' : Yd u σ H0 e) (h'' : Yd w σ H0 f) : Yd (tTup (tCons (tC (.str z)) (tCons t (tCons u (tCons w tNil))))) σ H0 (.t [.s z, d, e, f]) := yd_tup (yda4 (yd_str ok) h h' h'') (by simp)
/-- an item of a tuple of data -/
theorem yd_ixT {K : Frag} {t : TE} {σ : L2.St} {H0 : Hp} {ds : List D} {d : D} {i : Nat} (h : Yd t σ H0 (.t ds)) (e : ds[i]? = some d) : Yd (tOp (rIxT K) t (tC (.int (i : Int)))) σ H0 d := fun H s Q q => h H s _ fun v H1 s1 hv => by
  cases hv with
  | @t p xs _ ex hx =>
    obtain ⟨hi, _⟩ := List.getElem?_eq_some_iff.mp e
    have hl := hx.length
    obtain ⟨x, ee⟩ : ∃ x, xs[i]? = some x := ⟨xs[i], List.getElem?_eq_getElem (by omega)⟩
    obtain ⟨d', e', hd⟩ := hx.at_ ee
    obtain rfl := Option.some.inj (e'.symm.trans e)
    exact ⟨p, xs, (i : Int), x, rfl, rfl, SqT.of ex, atI_nat ee, q x H1 s1 hd⟩
/-- a call, all of whose arguments are data -/
theorem yd_call {sp : Sp} {E : XK} {t : TA} {σ : L2.St} {H0 : Hp} {ds : List D} {d : D} (h : YdA t σ H0 ds) (c : ∀ vs H Q, Same H0 H → DsAt H vs ds → (∀ v H', Same H H' → DAt H' v d → Q v H') → sp vs H Q E) : Yd (tCall sp [] E t) σ H0 d := fun H s Q q =>
  h H s _ fun vs H1 s1 hvs => by
    rw [List.append_nil]
    exact c vs H1 Q (s.trans s1) hvs fun v H' s' hv => q v H' (s1.trans s') hv
theorem gN {i : Nat} {v : V} {σ : L2.St} {H : Hp} {Q : L2.St → Hp → Prop} (h : Q (σ.set i (some v)) H) : gName i v σ H Q := h
/-- name = data -/
theorem yd_set {te : TE} {i : Nat} {u : TS} {D0 : Ends} {σ : L2.St} {H H0 : Hp} {d : D} (y : Yd te σ H0 d) (s : Same H0 H) (q : ∀ v H', Same H H' → DAt H' v d → u D0 (σ.set i (some v)) H') : tSeq (tAsg te (gName i)) u D0 σ H := y H s _ fun v H' s' h => q v H' s' h
theorem yd_ret {te : TE} {D0 : Ends} {σ : L2.St} {H H0 : Hp} {d : D} (y : Yd te σ H0 d) (s : Same H0 H) (q : ∀ v H', Same H H' → DAt H' v d → D0.rt v H') : tRet te D0 σ H := y H s _ fun v H' s' h => q v H' s' h
/-- a list of data, in a new list -/
theorem yda_lst {t : TA} {σ : L2.St} {H H0 : Hp} {ds : List D} {Q : VK} (y : YdA t σ H0 ds) (s : Same H0 H) (l : ds.length ≤ 100) (q : ∀ (L : Addr) vs H', Same H H' → H L = none → H' L = some (.lst vs) → DsAt H' vs ds → Q (.ref L) H') : tLst t σ H Q := y H s _ fun vs H1 s1 hvs => ⟨by rw [hvs.length, sizeLine_eq]; omega, fun L nL => q L vs _ (s1.trans (same_upd nL)) (s1.free nL) upd_same (hvs.mono (TK.upd_new nL))⟩
theorem yda_ret {t : TA} {D0 : Ends} {σ : L2.St} {H H0 : Hp} {ds : List D} (y : YdA t σ H0 ds) (s : Same H0 H) (l : ds.length ≤ 100) (q : ∀ (L : Addr) vs H', Same H H' → H L = none → H' L = some (.lst vs) → DsAt H' vs ds → D0.rt (.ref L) H') : tRet (tLst t) D0 σ H := yda_lst y s l q
theorem tx_over : TxtOk "over" := ⟨by decide +kernel, by decide +kernel⟩
theorem tx_under : TxtOk "under" := ⟨by decide +kernel, by decide +kernel⟩
theorem tx_then : TxtOk "then" := ⟨by decide +kernel, by decide +kernel⟩
end S4

namespace S4
open PySem PySem.Spec PyProof.Rows L2 LamX KT
open PySem.W (Frag)
/-! ### lists of data -/
def YdL (t : TE) (σ : L2.St) (H0 : Hp) (ds : List D) : Prop := ∀ H, Same H0 H → ∀ Q : VK, (∀ (L : Addr) vs H', Same H H' → H' L = some (.lst vs) → DsAt H' vs ds → Q (.ref L) H') → t σ H Q
theorem ydl_lst {t : TA} {σ : L2.St} {H0 : Hp} {ds : List D} (h : YdA t σ H0 ds) (l : ds.length ≤ 100) : YdL (tLst t) σ H0 ds := fun H s Q q => yda_lst h s l fun L vs H' s' _ e hv => q L vs H' s' e hv
theorem ydl_var {i : Nat} {σ : L2.St} {H0 : Hp} {L : Addr} {vs : List V} {ds : List D} (e : σ[i]? = some (some (.ref L))) (eL : H0 L = some (.lst vs)) (h : DsAt H0 vs ds) : YdL (tVar i) σ H0 ds := fun H s Q q => ⟨_, e, q L vs H (Same.refl H) (s _ _ eL) (h.mono (TK.of_same s))⟩
theorem ydl_cat {t u : TE} {σ : L2.St} {H0 : Hp} {ds es : List D} (h : YdL t σ H0 ds) (h' : YdL u σ H0 es) (l : ds.length + es.length ≤ 1000) : YdL (tOp rCat t u) σ H0 (ds ++ es) := fun H s Q q =>
  h H s _ fun L vs H1 s1 e1 d1 => h' H1 (s.trans s1) _ fun M us H2 s2 e2 d2 => ⟨L, M, vs, us, rfl, rfl, s2 _ _ e1, e2, by rw [d1.length, d2.length, sizeLine_eq]; omega, fun p np => q p _ _ ((s1.trans s2).trans (same_upd np)) upd_same (((d1.mono (TK.of_same s2)).append d2).mono (TK.upd_new np))⟩
/-- an index that is known -/
def Yi (t : TE) (σ : L2.St) (H0 : Hp) (i : Int) : Prop := ∀ H, Same H0 H → ∀ Q : VK, Q (.int i) H → t σ H Q
theorem yi_int {σ : L2.St} {H0 : Hp} {i : Int} : Yi (tC (.int i)) σ H0 i := fun _ _ _ q => q
theorem yi_var {i : Nat} {n : Int} {σ : L2.St} {H0 : Hp} (e : σ[i]? = some (some (.int n))) : Yi (tVar i) σ H0 n := fun _ _ _ q => ⟨_, e, q⟩
theorem yd_ixL {K : Frag} {t ti : TE} {σ : L2.St} {H0 : Hp} {ds : List D} {d : D} {i : Nat} (h : YdL t σ H0 ds) (hi : Yi ti σ H0 (i : Int)) (e : ds[i]? = some d) : Yd (tOp (rIxL K) t ti) σ H0 d := fun H s Q q =>
  h H s _ fun L vs H1 s1 e1 d1 => hi H1 (s.trans s1) _ (by
    obtain ⟨hi', _⟩ := List.getElem?_eq_some_iff.mp e
    have hl := d1.length
    obtain ⟨x, ee⟩ : ∃ x, vs[i]? = some x := ⟨vs[i], List.getElem?_eq_getElem (by omega)⟩
    obtain ⟨d', e', hd⟩ := d1.at_ ee
    obtain rfl := Option.some.inj (e'.symm.trans e)
    exact ⟨L, vs, (i : Int), x, rfl, rfl, SqL.of e1, atI_nat ee, q x H1 s1 hd⟩)
theorem ydl_set {te : TE} {i : Nat} {u : TS} {D0 : Ends} {σ : L2.St} {H H0 : Hp} {ds : List D} (y : YdL te σ H0 ds) (s : Same H0 H) (q : ∀ (L : Addr) vs H', Same H H' → H' L = some (.lst vs) → DsAt H' vs ds → u D0 (σ.set i (some (.ref L))) H') : tSeq (tAsg te (gName i)) u D0 σ H := y H s _ fun L vs H' s' e h => q L vs H' s' e h
theorem yd_ret' {te : TE} {D0 : Ends} {σ : L2.St} {H H0 : Hp} {d : D} (y : Yd te σ H0 d) (s : Same H0 H) (q : ∀ v H', Same H H' → DAt H' v d → D0.rt v H') : tRet te D0 σ H := yd_ret y s q
end S4

namespace S4
open PySem PySem.Spec PyProof.Rows L2 LamX KT
open PySem.W (Frag)
abbrev isD (t : Ty) : D := .t [.s "is", t.d]
theorem isD_tl (t : Ty) (h : t.wok) : (isD t).tl = some ([t], t) := tl_of (.is (t.ty_d h))
abbrev ovD (k d : D) : D := .t [.s "over used", .i 0, .t [.s "is", k], d]
abbrev unD (k d : D) : D := .t [.s "under used", .i 0, .t [.s "is", k], d]
abbrev omD (d : D) : D := .t [.s "over made", d]
abbrev umD (d : D) : D := .t [.s "under made", d]
abbrev coD (a b c : Ty) : D := .t [.s "over used", .i 1, isD c, ovD b.d (isD a)]
abbrev cuD (c b a : Ty) : D := unD c.d (unD b.d (isD a))
/-! what they tell -/
theorem coD_tl {a b c : Ty} (h1 : a.wok) (h2 : b.wok) (h3 : c.wok) : (coD a b c).tl = some ([.n .ov a b, .n .ov b c, c], a) :=
  tl_of (.us (ry := ([.n .ov a b, b], a)) (by decide) (isD_tl c h3) (tl_of (.us (by decide) (isD_tl b h2) (isD_tl a h1) (by simp [usedAt]))) (by simp [usedAt]))
theorem cuD_tl {a b c : Ty} (h1 : a.wok) (h2 : b.wok) (h3 : c.wok) : (cuD c b a).tl = some ([c, .n .un c b, .n .un b a], a) :=
  tl_of (.us (ry := ([b, .n .un b a], a)) (by decide) (isD_tl c h3) (tl_of (.us (by decide) (isD_tl b h2) (isD_tl a h1) (by simp [usedAt]))) (by simp [usedAt]))
/-! the cases: what is asked, what comes, what it tells -/
inductive Case : Int → List D → D → List Ty → Ty → Prop
  | r0 {a b : Ty} : a.wok → b.wok → Case 0 [a.d, b.d, .s "over"] (omD (unD a.d (isD b))) [a] (.n .ov b (.n .un a b))
  | r1 {a b : Ty} : a.wok → b.wok → Case 0 [a.d, b.d, .s "under"] (umD (ovD a.d (isD b))) [a] (.n .un (.n .ov b a) b)
  | c0 {a b c : Ty} : a.wok → b.wok → c.wok → Case 1 [(Ty.n .ov a b).d, (Ty.n .ov b c).d] (omD (coD a b c)) [.n .ov a b, .n .ov b c] (.n .ov a c)
  | c1 {a b c : Ty} : a.wok → b.wok → c.wok → Case 1 [(Ty.n .un c b).d, (Ty.n .un b a).d] (umD (cuD c b a)) [.n .un c b, .n .un b a] (.n .un c a)
  | d0 {a b c : Ty} : a.wok → b.wok → c.wok → Case 2 [(Ty.n .ov a b).d, c.d] (omD (omD (coD a b c))) [.n .ov a b] (.n .ov (.n .ov a c) (.n .ov b c))
  | d1 {a b c : Ty} : a.wok → b.wok → c.wok → Case 2 [(Ty.n .un b a).d, c.d] (umD (umD (cuD c b a))) [.n .un b a] (.n .un (.n .un c b) (.n .un c a))
  | s0 {a b c : Ty} : a.wok → b.wok → c.wok → Case 3 [(Ty.n .ov (.n .un b a) c).d] (umD (omD (.t [.s "over used", .i 1, isD c, unD b.d (isD a)]))) [.n .ov (.n .un b a) c] (.n .un b (.n .ov a c))
  | s1 {a b c : Ty} : a.wok → b.wok → c.wok → Case 3 [(Ty.n .un b (.n .ov a c)).d] (omD (umD (unD b.d (ovD c.d (isD a))))) [.n .un b (.n .ov a c)] (.n .ov (.n .un b a) c)
  | p0 {a b c : Ty} : a.wok → b.wok → c.wok → Case 4 [(Ty.n .ov a (.n .th b c)).d] (omD (omD (.t [.s "over used", .i 0, .t [.s "then made", isD b, isD c], isD a]))) [.n .ov a (.n .th b c)] (.n .ov (.n .ov a c) b)
  | p1 {a b c : Ty} : a.wok → b.wok → c.wok → Case 4 [(Ty.n .un (.n .th b c) a).d] (umD (umD (.t [.s "under used", .i 0, .t [.s "then made", isD b, isD c], isD a]))) [.n .un (.n .th b c) a] (.n .un c (.n .un b a))
  | k0 {a b c : Ty} : a.wok → b.wok → c.wok → Case 5 [(Ty.n .ov (.n .ov a c) b).d] (omD (.t [.s "then used", .i 1, ovD b.d (ovD c.d (isD a))])) [.n .ov (.n .ov a c) b] (.n .ov a (.n .th b c))
  | k1 {a b c : Ty} : a.wok → b.wok → c.wok → Case 5 [(Ty.n .un c (.n .un b a)).d] (umD (.t [.s "then used", .i 0, .t [.s "under used", .i 1, isD c, unD b.d (isD a)]])) [.n .un c (.n .un b a)] (.n .un (.n .th b c) a)
theorem Case.tl {j : Int} {ds : List D} {d : D} {row : List Ty} {goal : Ty} (h : Case j ds d row goal) : d.tl = some (row, goal) := by
  cases h with
  | @r0 a b h1 h2 => exact tl_of (.om (rx := ([a, .n .un a b], b)) (tl_of (.us (by decide) (isD_tl a h1) (isD_tl b h2) (by simp [usedAt]))) (by simp [madeO]))
  | @r1 a b h1 h2 => exact tl_of (.um (rx := ([.n .ov b a, a], b)) (tl_of (.us (by decide) (isD_tl a h1) (isD_tl b h2) (by simp [usedAt]))) (by simp [madeU]))
  | @c0 a b c h1 h2 h3 => exact tl_of (.om (coD_tl h1 h2 h3) (by simp [madeO]))
  | @c1 a b c h1 h2 h3 => exact tl_of (.um (cuD_tl h1 h2 h3) (by simp [madeU]))
  | @d0 a b c h1 h2 h3 => exact tl_of (.om (rx := ([.n .ov a b, .n .ov b c], .n .ov a c)) (tl_of (.om (coD_tl h1 h2 h3) (by simp [madeO]))) (by simp [madeO]))
  | @d1 a b c h1 h2 h3 => exact tl_of (.um (rx := ([.n .un c b, .n .un b a], .n .un c a)) (tl_of (.um (cuD_tl h1 h2 h3) (by simp [madeU]))) (by simp [madeU]))
  | @s0 a b c h1 h2 h3 => exact tl_of (.um (rx := ([b, .n .ov (.n .un b a) c], .n .ov a c)) (tl_of (.om (rx := ([b, .n .ov (.n .un b a) c, c], a)) (tl_of (.us (ry := ([b, .n .un b a], a)) (by decide) (isD_tl c h3) (tl_of (.us (by decide) (isD_tl b h2) (isD_tl a h1) (by simp [usedAt]))) (by simp [usedAt]))) (by simp [madeO]))) (by simp [madeU]))
  | @s1 a b c h1 h2 h3 => exact tl_of (.om (rx := ([.n .un b (.n .ov a c), c], .n .un b a)) (tl_of (.um (rx := ([b, .n .un b (.n .ov a c), c], a)) (tl_of (.us (ry := ([.n .ov a c, c], a)) (by decide) (isD_tl b h2) (tl_of (.us (by decide) (isD_tl c h3) (isD_tl a h1) (by simp [usedAt]))) (by simp [usedAt]))) (by simp [madeU]))) (by simp [madeO]))
  | @p0 a b c h1 h2 h3 => exact tl_of (.om (rx := ([.n .ov a (.n .th b c), b], .n .ov a c)) (tl_of (.om (rx := ([.n .ov a (.n .th b c), b, c], a)) (tl_of (.us (by decide) (tl_of (.tm (isD_tl b h2) (isD_tl c h3))) (isD_tl a h1) (by simp [usedAt, thenM]))) (by simp [madeO]))) (by simp [madeO]))
  | @p1 a b c h1 h2 h3 => exact tl_of (.um (rx := ([c, .n .un (.n .th b c) a], .n .un b a)) (tl_of (.um (rx := ([b, c, .n .un (.n .th b c) a], a)) (tl_of (.us (by decide) (tl_of (.tm (isD_tl b h2) (isD_tl c h3))) (isD_tl a h1) (by simp [usedAt, thenM]))) (by simp [madeU]))) (by simp [madeU]))
  | @k0 a b c h1 h2 h3 => exact tl_of (.om (rx := ([.n .ov (.n .ov a c) b, .n .th b c], a)) (tl_of (.tu (ry := ([.n .ov (.n .ov a c) b, b, c], a)) (tl_of (.us (ry := ([.n .ov a c, c], a)) (by decide) (isD_tl b h2) (tl_of (.us (by decide) (isD_tl c h3) (isD_tl a h1) (by simp [usedAt]))) (by simp [usedAt]))) (by simp [thenU]))) (by simp [madeO]))
  | @k1 a b c h1 h2 h3 => exact tl_of (.um (rx := ([.n .th b c, .n .un c (.n .un b a)], a)) (tl_of (.tu (ry := ([b, c, .n .un c (.n .un b a)], a)) (tl_of (.us (ry := ([b, .n .un b a], a)) (by decide) (isD_tl c h3) (tl_of (.us (by decide) (isD_tl b h2) (isD_tl a h1) (by simp [usedAt]))) (by simp [usedAt]))) (by simp [thenU]))) (by simp [madeU]))
section
variable {P : Program} {w : World} {K : Frag} {mg : Str → Option Value} {base : Heap}
/-- data in, data out -/
def spR (n : Nat) (R : List D → D → Prop) : Sp := fun vs H Q _ => ∃ ds d, vs.length = n ∧ DsAt H vs ds ∧ R ds d ∧ ∀ v' H', Same H H' → DAt H' v' d → Q v' H'
theorem yd_spR {n : Nat} {R : List D → D → Prop} {t : TA} {σ : L2.St} {H0 : Hp} {ds : List D} {d : D} (h : YdA t σ H0 ds) (l : ds.length = n) (r : R ds d) : Yd (tCall (spR n R) [] L2.E0 t) σ H0 d := yd_call h fun vs H Q _ hv q => ⟨ds, d, by rw [hv.length, l], hv, r, q⟩
theorem ok_over {f : Addr} {fd : FuncData} (T : Top K mg "_over" sOver pOver f fd) : FnOk P w K mg base CX0 1 f fd pOver (spR 2 fun ds d => ∃ x k, ds = [x, k] ∧ d = ovD k x) := by
  refine T.F.ok scOver (fun vs H Q E h => ?_) (fun cdv A outer s H vs Q E hr h => ?_)
  · obtain ⟨_, _, l, _⟩ := h
    exact l
  · obtain ⟨_, _, _, hd, ⟨x, k, rfl, rfl⟩, q⟩ := h
    cases hd with
    | cons h1 hd => cases hd with
      | cons h2 hd =>
        cases hd
        refine ⟨_, (pss_one (ps_ret (pe_tup (pa_cons pe_str (pa_cons pe_int (pa_cons (pe_tup (pa_cons pe_str (pa_cons (pv 1) pa_nil))) (pa_cons (pv 0) pa_nil))))))), ?_⟩
        exact yd_ret (yt4 (d := .i 0) (txtIs _ (by simp)) yd_int (yt2 (txtIs _ (by simp)) (yd_var (by rfl) h2)) (yd_var (by rfl) h1)) (Same.refl H) q
theorem ok_under {f : Addr} {fd : FuncData} (T : Top K mg "_under" sUnder pUnder f fd) : FnOk P w K mg base CX0 1 f fd pUnder (spR 2 fun ds d => ∃ x k, ds = [x, k] ∧ d = unD k x) := by
  refine T.F.ok scUnder (fun vs H Q E h => ?_) (fun cdv A outer s H vs Q E hr h => ?_)
  · obtain ⟨_, _, l, _⟩ := h
    exact l
  · obtain ⟨_, _, _, hd, ⟨x, k, rfl, rfl⟩, q⟩ := h
    cases hd with
    | cons h1 hd => cases hd with
      | cons h2 hd =>
        cases hd
        refine ⟨_, (pss_one (ps_ret (pe_tup (pa_cons pe_str (pa_cons pe_int (pa_cons (pe_tup (pa_cons pe_str (pa_cons (pv 1) pa_nil))) (pa_cons (pv 0) pa_nil))))))), ?_⟩
        exact yd_ret (yt4 (d := .i 0) (txtIs _ (by simp)) yd_int (yt2 (txtIs _ (by simp)) (yd_var (by rfl) h2)) (yd_var (by rfl) h1)) (Same.refl H) q
abbrev RO : List D → D → Prop := fun ds d => ∃ x k, ds = [x, k] ∧ d = ovD k x
abbrev RU : List D → D → Prop := fun ds d => ∃ x k, ds = [x, k] ∧ d = unD k x
abbrev RCO : List D → D → Prop := fun ds d => ∃ a b c : Ty, ds = [a.d, b.d, c.d] ∧ d = coD a b c
abbrev RCU : List D → D → Prop := fun ds d => ∃ a b c : Ty, ds = [c.d, b.d, a.d] ∧ d = cuD c b a
theorem ok_compOver {f fo : Addr} {fd fdo : FuncData} (T : Top K mg "_composed_over" sComposedOver pComposedOver f fd) (TO : Top K mg "_over" sOver pOver fo fdo) (GO : FnOk P w K mg base CX0 1 fo fdo pOver (spR 2 RO)) : FnOk P w K mg base CX0 2 f fd pComposedOver (spR 3 RCO) := by
  refine T.F.ok scComposedOver (fun vs H Q E h => ?_) (fun cdv A outer s H vs Q E hr h => ?_)
  · obtain ⟨_, _, l, _⟩ := h
    exact l
  · obtain ⟨_, _, _, hd, ⟨a, b, c, rfl, rfl⟩, q⟩ := h
    cases hd with
    | cons h1 hd => cases hd with
      | cons h2 hd => cases hd with
        | cons h3 hd =>
          cases hd
          refine ⟨_, (pss_one (ps_ret (pe_tup (pa_cons pe_str (pa_cons pe_int (pa_cons (pe_tup (pa_cons pe_str (pa_cons (pv 2) pa_nil))) (pa_cons (pe_call GO hr rfl TO.g TO.F.kp TO.b .nil pass0 (pa_cons (pe_tup (pa_cons pe_str (pa_cons (pv 0) pa_nil))) (pa_cons (pv 1) pa_nil))) pa_nil))))))), ?_⟩
          exact yd_ret (yt4 (d := .i 1) (txtIs _ (by simp)) yd_int (yt2 (txtIs _ (by simp)) (yd_var (by rfl) h3)) (yd_spR (yda2 (yt2 (txtIs _ (by simp)) (yd_var (by rfl) h1)) (yd_var (by rfl) h2)) rfl ⟨_, _, rfl, rfl⟩)) (Same.refl H) q
theorem ok_compUnder {f fo : Addr} {fd fdo : FuncData} (T : Top K mg "_composed_under" sComposedUnder pComposedUnder f fd) (TO : Top K mg "_under" sUnder pUnder fo fdo) (GO : FnOk P w K mg base CX0 1 fo fdo pUnder (spR 2 RU)) : FnOk P w K mg base CX0 2 f fd pComposedUnder (spR 3 RCU) := by
  refine T.F.ok scComposedUnder (fun vs H Q E h => ?_) (fun cdv A outer s H vs Q E hr h => ?_)
  · obtain ⟨_, _, l, _⟩ := h
    exact l
  · obtain ⟨_, _, _, hd, ⟨a, b, c, rfl, rfl⟩, q⟩ := h
    cases hd with
    | cons h1 hd => cases hd with
      | cons h2 hd => cases hd with
        | cons h3 hd =>
          cases hd
          refine ⟨_, (pss_one (ps_ret (pe_call GO hr rfl TO.g TO.F.kp TO.b .nil pass0 (pa_cons (pe_call GO hr rfl TO.g TO.F.kp TO.b .nil pass0 (pa_cons (pe_tup (pa_cons pe_str (pa_cons (pv 2) pa_nil))) (pa_cons (pv 1) pa_nil))) (pa_cons (pv 0) pa_nil))))), ?_⟩
          exact yd_ret (yd_spR (yda2 (yd_spR (yda2 (yt2 (txtIs _ (by simp)) (yd_var (by rfl) h3)) (yd_var (by rfl) h2)) rfl ⟨_, _, rfl, rfl⟩) (yd_var (by rfl) h1)) rfl ⟨_, _, rfl, rfl⟩) (Same.refl H) q
/-- has a type this sign ahead? -/
def Ty.hasSg (g : Sg) : Ty → Bool
  | .w _ => false
  | .n g' _ _ => decide (g' = g)
def spHasSign : Sp := fun vs H Q _ => ∃ v t g, vs = [v, .str (Sg.str g)] ∧ TyAt H v t ∧ Q (.bl (t.hasSg g)) H
theorem ok_hasSign {f : Addr} {fd : FuncData} (T : Top K mg "has_sign" sHasSign pHasSign f fd) (B : Blt mg) : FnOk P w K mg base CX0 1 f fd pHasSign spHasSign := by
  refine T.F.ok scHasSign (fun vs H Q E h => ?_) (fun cdv A outer s H vs Q E hr h => ?_)
  · obtain ⟨_, _, _, rfl, _⟩ := h
    rfl
  · obtain ⟨v, t, g, rfl, ht, q⟩ := h
    refine ⟨_, (pss_one (ps_ret (pe_and (pe_callB call_isi (by rfl) B.isi (by decide +kernel) (pa_cons (pv 0) (pa_cons (pe_bltn (v := .ty "tuple") (by rfl) B.tuple (by decide +kernel) rfl) pa_nil))) (pe_one (pe_cmpR op_eq (pe_ix ix_tup (pv 0) pe_int (fun _ _ => rfl)) (pv 1) (nomark _)))))), ?_⟩
    cases ht with
    | @w z h => exact ⟨_, rfl, _, _, _, _, false, rfl, .ty "tuple", .base (.str z), kit_ty (by decide +kernel), false, rfl, q⟩
    | @n p g' x y a b e h1 h2 =>
      refine ⟨_, rfl, _, _, _, _, true, rfl, .ty "tuple", .base (.tup e), kit_ty (by decide +kernel), true, rfl, ?_⟩
      refine ⟨_, rfl, p, _, _, _, rfl, rfl, SqT.of e, atI_nat (j := 0) rfl, _, rfl, rfl, ?_⟩
      have e1 : decide (V.str g'.str = V.str g.str) = decide (g' = g) := by
        cases g <;> cases g' <;> decide +kernel
      dsimp only
      rw [e1]
      exact q
end
end S4

namespace S4
open PySem PySem.Spec PyProof.Rows L2 LamX KT
open PySem.W (Frag)
section
variable {P : Program} {w : World} {K : Frag} {mg : Str → Option Value} {base : Heap}
/-- a step known by name, asked as one of the cases -/
def spN (j : Int) (n : Nat) : Sp := fun vs H Q _ => ∃ ds d row goal, vs.length = n ∧ DsAt H vs ds ∧ Case j ds d row goal ∧ (∀ e ∈ ds, e.dep ≤ 60 ∧ e.size ≤ 1000000) ∧ ∀ v' H', Same H H' → DAt H' v' d → Q v' H'
theorem dsAt1 {H : Hp} {vs : List V} {d : D} (h : DsAt H vs [d]) : ∃ v, vs = [v] ∧ DAt H v d := by
  cases h with
  | cons a h => cases h; exact ⟨_, rfl, a⟩
theorem dsAt2 {H : Hp} {vs : List V} {d e : D} (h : DsAt H vs [d, e]) : ∃ v u, vs = [v, u] ∧ DAt H v d ∧ DAt H u e := by
  cases h with
  | cons a h => obtain ⟨u, rfl, b⟩ := dsAt1 h; exact ⟨_, _, rfl, a, b⟩
theorem dsAt3 {H : Hp} {vs : List V} {d e f : D} (h : DsAt H vs [d, e, f]) : ∃ v u x, vs = [v, u, x] ∧ DAt H v d ∧ DAt H u e ∧ DAt H x f := by
  cases h with
  | cons a h => obtain ⟨u, x, rfl, b, c⟩ := dsAt2 h; exact ⟨_, _, _, rfl, a, b, c⟩
theorem tyN {H : Hp} {v : V} {g : Sg} {a b : Ty} (h : TyAt H v (.n g a b)) : ∃ p x y, v = .ref p ∧ H p = some (.tup [.str g.str, x, y]) ∧ TyAt H x a ∧ TyAt H y b := by
  cases h with
  | n e h1 h2 => exact ⟨_, _, _, rfl, e, h1, h2⟩
theorem ok_raising {f fc fh fO fU : Addr} {fd fdc fdh fdO fdU : FuncData} (T : Top K mg "raising" sRaising pRaising f fd) (TC : Top K mg "check_kind" sCheckKind pCheckKind fc fdc) (TH : Top K mg "has_sign" sHasSign pHasSign fh fdh) (TO : Top K mg "_over" sOver pOver fO fdO) (TU : Top K mg "_under" sUnder pUnder fU fdU)
    (GC : FnOk P w K mg base CX0 3 fc fdc pCheckKind spCheckKindT) (GH : FnOk P w K mg base CX0 1 fh fdh pHasSign spHasSign) (GO : FnOk P w K mg base CX0 1 fO fdO pOver (spR 2 RO)) (GU : FnOk P w K mg base CX0 1 fU fdU pUnder (spR 2 RU)) : FnOk P w K mg base CX0 4 f fd pRaising (spN 0 3) := by
  refine T.F.ok scRaising (fun vs H Q E h => ?_) (fun cdv A outer s H vs Q E hr h => ?_)
  · obtain ⟨_, _, _, _, l, _⟩ := h
    exact l
  · obtain ⟨_, _, _, _, _, hd, hc, hs, q⟩ := h
    have hr1 : Room 1 _ := hr.mono (by decide)
    have hr2 : Room 2 _ := hr.mono (by decide)
    cases hc with
    | @r0 a b h1 h2 =>
      obtain ⟨v1, v2, v3, rfl, d1, d2, d3⟩ := dsAt3 hd
      cases d3
      have t1 := d1.ty (a.ty_d h1)
      have t2 := d2.ty (b.ty_d h2)
      obtain ⟨p1, z1⟩ := hs a.d (by simp)
      obtain ⟨p2, z2⟩ := hs b.d (by simp)
      refine ⟨_, (pss_cons (ps_expr (pe_call GC hr rfl TC.g TC.F.kp TC.b .nil pass0 (pa_cons (pv 0) pa_nil)))
      (pss_cons (ps_expr (pe_call GC hr rfl TC.g TC.F.kp TC.b .nil pass0 (pa_cons (pv 1) pa_nil)))
      (pss_cons (ps_if (pt_cmpR op_eq (pv 2) pe_str (nomark _)) (pss_one (ps_ret (pe_tup (pa_cons pe_str (pa_cons (pe_call GU hr1 rfl TU.g TU.F.kp TU.b .nil pass0 (pa_cons (pe_tup (pa_cons pe_str (pa_cons (pv 1) pa_nil))) (pa_cons (pv 0) pa_nil))) pa_nil))))) pss_nil)
      (pss_cons (ps_if (pt_cmpR op_eq (pv 2) pe_str (nomark _)) (pss_one (ps_ret (pe_tup (pa_cons pe_str (pa_cons (pe_call GO hr1 rfl TO.g TO.F.kp TO.b .nil pass0 (pa_cons (pe_tup (pa_cons pe_str (pa_cons (pv 1) pa_nil))) (pa_cons (pv 0) pa_nil))) pa_nil))))) pss_nil)
      pss_never)))), ?_⟩
      refine ⟨v1, rfl, v1, a, rfl, t1, p1, z1, fun H1 s1 => ⟨v2, rfl, v2, b, rfl, t2.mono (TK.of_same s1), p2, z2, fun H2 s2 => ?_⟩⟩
      have s12 := s1.trans s2
      refine ⟨_, rfl, rfl, true, congrArg V.bl (decide_eq_true rfl), iteT ?_⟩
      exact yd_ret (yt2 (txtIs _ (by simp)) (yd_spR (yda2 (yt2 (txtIs _ (by simp)) (yd_var (by rfl) (d2.mono (TK.of_same s12)))) (yd_var (by rfl) (d1.mono (TK.of_same s12)))) rfl ⟨_, _, rfl, rfl⟩)) (Same.refl H2) fun v' H' s' h' => q v' H' (s12.trans s') h'
    | @r1 a b h1 h2 =>
      obtain ⟨v1, v2, v3, rfl, d1, d2, d3⟩ := dsAt3 hd
      cases d3
      have t1 := d1.ty (a.ty_d h1)
      have t2 := d2.ty (b.ty_d h2)
      obtain ⟨p1, z1⟩ := hs a.d (by simp)
      obtain ⟨p2, z2⟩ := hs b.d (by simp)
      refine ⟨_, (pss_cons (ps_expr (pe_call GC hr rfl TC.g TC.F.kp TC.b .nil pass0 (pa_cons (pv 0) pa_nil)))
      (pss_cons (ps_expr (pe_call GC hr rfl TC.g TC.F.kp TC.b .nil pass0 (pa_cons (pv 1) pa_nil)))
      (pss_cons (ps_if (pt_cmpR op_eq (pv 2) pe_str (nomark _)) (pss_one (ps_ret (pe_tup (pa_cons pe_str (pa_cons (pe_call GU hr1 rfl TU.g TU.F.kp TU.b .nil pass0 (pa_cons (pe_tup (pa_cons pe_str (pa_cons (pv 1) pa_nil))) (pa_cons (pv 0) pa_nil))) pa_nil))))) pss_nil)
      (pss_cons (ps_if (pt_cmpR op_eq (pv 2) pe_str (nomark _)) (pss_one (ps_ret (pe_tup (pa_cons pe_str (pa_cons (pe_call GO hr1 rfl TO.g TO.F.kp TO.b .nil pass0 (pa_cons (pe_tup (pa_cons pe_str (pa_cons (pv 1) pa_nil))) (pa_cons (pv 0) pa_nil))) pa_nil))))) pss_nil)
      pss_never)))), ?_⟩
      refine ⟨v1, rfl, v1, a, rfl, t1, p1, z1, fun H1 s1 => ⟨v2, rfl, v2, b, rfl, t2.mono (TK.of_same s1), p2, z2, fun H2 s2 => ?_⟩⟩
      have s12 := s1.trans s2
      refine ⟨_, rfl, rfl, false, congrArg V.bl (decide_eq_false (by decide)), iteF ⟨_, rfl, rfl, true, congrArg V.bl (decide_eq_true rfl), iteT ?_⟩⟩
      exact yd_ret (yt2 (txtIs _ (by simp)) (yd_spR (yda2 (yt2 (txtIs _ (by simp)) (yd_var (by rfl) (d2.mono (TK.of_same s12)))) (yd_var (by rfl) (d1.mono (TK.of_same s12)))) rfl ⟨_, _, rfl, rfl⟩)) (Same.refl H2) fun v' H' s' h' => q v' H' (s12.trans s') h'
theorem ok_composing {f fc fh fCO fCU : Addr} {fd fdc fdh fdCO fdCU : FuncData} (T : Top K mg "composing" sComposing pComposing f fd) (TC : Top K mg "check_kind" sCheckKind pCheckKind fc fdc) (TH : Top K mg "has_sign" sHasSign pHasSign fh fdh) (TCO : Top K mg "_composed_over" sComposedOver pComposedOver fCO fdCO) (TCU : Top K mg "_composed_under" sComposedUnder pComposedUnder fCU fdCU)
    (GC : FnOk P w K mg base CX0 3 fc fdc pCheckKind spCheckKindT) (GH : FnOk P w K mg base CX0 1 fh fdh pHasSign spHasSign) (GCO : FnOk P w K mg base CX0 2 fCO fdCO pComposedOver (spR 3 RCO)) (GCU : FnOk P w K mg base CX0 2 fCU fdCU pComposedUnder (spR 3 RCU)) : FnOk P w K mg base CX0 4 f fd pComposing (spN 1 2) := by
  refine T.F.ok scComposing (fun vs H Q E h => ?_) (fun cdv A outer s H vs Q E hr h => ?_)
  · obtain ⟨_, _, _, _, l, _⟩ := h
    exact l
  · obtain ⟨_, _, _, _, _, hd, hc, hs, q⟩ := h
    have hr1 : Room 1 _ := hr.mono (by decide)
    have hr2 : Room 2 _ := hr.mono (by decide)
    cases hc with
    | @c0 a b c h1 h2 h3 =>
      obtain ⟨v1, v2, rfl, d1, d2⟩ := dsAt2 hd
      have t1 : TyAt H v1 (.n .ov a b) := d1.ty (Ty.ty_d _ ⟨h1, h2⟩)
      obtain ⟨p1, z1⟩ := hs (Ty.d (.n .ov a b)) (by simp)
      have t2 : TyAt H v2 (.n .ov b c) := d2.ty (Ty.ty_d _ ⟨h2, h3⟩)
      obtain ⟨p2, z2⟩ := hs (Ty.d (.n .ov b c)) (by simp)
      refine ⟨_, (pss_cons (ps_expr (pe_call GC hr rfl TC.g TC.F.kp TC.b .nil pass0 (pa_cons (pv 0) pa_nil)))
      (pss_cons (ps_expr (pe_call GC hr rfl TC.g TC.F.kp TC.b .nil pass0 (pa_cons (pv 1) pa_nil)))
      (pss_cons (ps_if (PW.pt (pw_and (pt_val (pe_call GH hr1 rfl TH.g TH.F.kp TH.b .nil pass0 (pa_cons (pv 0) (pa_cons pe_str pa_nil)))) (pw_and (pt_val (pe_call GH hr1 rfl TH.g TH.F.kp TH.b .nil pass0 (pa_cons (pv 1) (pa_cons pe_str pa_nil)))) (pw_and1 (pt_cmpR (op_eqD (hu64 hr)) (pe_ix ix_tup (pv 0) pe_int (fun _ _ => rfl)) (pe_ix ix_tup (pv 1) pe_int (fun _ _ => rfl)) (nomark _)))))) (pss_one (ps_ret (pe_tup (pa_cons pe_str (pa_cons (pe_call GCO hr2 rfl TCO.g TCO.F.kp TCO.b .nil pass0 (pa_cons (pe_ix ix_tup (pv 0) pe_int (fun _ _ => rfl)) (pa_cons (pe_ix ix_tup (pv 0) pe_int (fun _ _ => rfl)) (pa_cons (pe_ix ix_tup (pv 1) pe_int (fun _ _ => rfl)) pa_nil)))) pa_nil))))) pss_nil)
      (pss_cons (ps_if (PW.pt (pw_and (pt_val (pe_call GH hr1 rfl TH.g TH.F.kp TH.b .nil pass0 (pa_cons (pv 0) (pa_cons pe_str pa_nil)))) (pw_and (pt_val (pe_call GH hr1 rfl TH.g TH.F.kp TH.b .nil pass0 (pa_cons (pv 1) (pa_cons pe_str pa_nil)))) (pw_and1 (pt_cmpR (op_eqD (hu64 hr)) (pe_ix ix_tup (pv 0) pe_int (fun _ _ => rfl)) (pe_ix ix_tup (pv 1) pe_int (fun _ _ => rfl)) (nomark _)))))) (pss_one (ps_ret (pe_tup (pa_cons pe_str (pa_cons (pe_call GCU hr2 rfl TCU.g TCU.F.kp TCU.b .nil pass0 (pa_cons (pe_ix ix_tup (pv 0) pe_int (fun _ _ => rfl)) (pa_cons (pe_ix ix_tup (pv 0) pe_int (fun _ _ => rfl)) (pa_cons (pe_ix ix_tup (pv 1) pe_int (fun _ _ => rfl)) pa_nil)))) pa_nil))))) pss_nil)
      pss_never)))), ?_⟩
      refine ⟨v1, rfl, v1, _, rfl, t1, p1, z1, fun H1 s1 => ⟨v2, rfl, v2, _, rfl, t2.mono (TK.of_same s1), p2, z2, fun H2 s2 => ?_⟩⟩
      have s12 := s1.trans s2
      have t1 := t1.mono (TK.of_same s12)
      have t2 := t2.mono (TK.of_same s12)
      clear d1 d2
      refine ⟨_, rfl, v1, _, .ov, rfl, t1, true, rfl, iteT ⟨_, rfl, v2, _, .ov, rfl, t2, true, rfl, iteT ?_⟩⟩
      obtain ⟨q1, x, y, rfl, e1, hx, hy⟩ := tyN t1
      obtain ⟨q2, y', z, rfl, e2, hy', hz⟩ := tyN t2
      have pb : b.d.dep ≤ 60 := by simp only [dep_n] at p1; omega
      obtain ⟨A1, A2⟩ := ty_dp (K := K) hy pb
      obtain ⟨B1, B2⟩ := ty_dp (K := K) hy' pb
      refine ⟨_, rfl, q1, _, _, _, rfl, rfl, SqT.of e1, atI_nat (j := 2) rfl, _, rfl, q2, _, _, _, rfl, rfl, SqT.of e2, atI_nat (j := 1) rfl, _, _, A1, B1, A2, B2, ?_⟩
      rw [eqv_ty, decide_eq_true rfl]
      refine ⟨_, rfl, iteT ?_⟩
      exact yd_ret (yt2 (txtIs _ (by simp)) (yd_spR (yda3 (yd_ixT (i := 1) (yd_var (by rfl) t1.d) rfl) (yd_ixT (i := 2) (yd_var (by rfl) t1.d) rfl) (yd_ixT (i := 2) (yd_var (by rfl) t2.d) rfl)) rfl ⟨a, b, c, rfl, rfl⟩)) (Same.refl H2) fun v' H' s' h' => q v' H' (s12.trans s') h'
    | @c1 a b c h1 h2 h3 =>
      obtain ⟨v1, v2, rfl, d1, d2⟩ := dsAt2 hd
      have t1 : TyAt H v1 (.n .un c b) := d1.ty (Ty.ty_d _ ⟨h3, h2⟩)
      obtain ⟨p1, z1⟩ := hs (Ty.d (.n .un c b)) (by simp)
      have t2 : TyAt H v2 (.n .un b a) := d2.ty (Ty.ty_d _ ⟨h2, h1⟩)
      obtain ⟨p2, z2⟩ := hs (Ty.d (.n .un b a)) (by simp)
      refine ⟨_, (pss_cons (ps_expr (pe_call GC hr rfl TC.g TC.F.kp TC.b .nil pass0 (pa_cons (pv 0) pa_nil)))
      (pss_cons (ps_expr (pe_call GC hr rfl TC.g TC.F.kp TC.b .nil pass0 (pa_cons (pv 1) pa_nil)))
      (pss_cons (ps_if (PW.pt (pw_and (pt_val (pe_call GH hr1 rfl TH.g TH.F.kp TH.b .nil pass0 (pa_cons (pv 0) (pa_cons pe_str pa_nil)))) (pw_and (pt_val (pe_call GH hr1 rfl TH.g TH.F.kp TH.b .nil pass0 (pa_cons (pv 1) (pa_cons pe_str pa_nil)))) (pw_and1 (pt_cmpR (op_eqD (hu64 hr)) (pe_ix ix_tup (pv 0) pe_int (fun _ _ => rfl)) (pe_ix ix_tup (pv 1) pe_int (fun _ _ => rfl)) (nomark _)))))) (pss_one (ps_ret (pe_tup (pa_cons pe_str (pa_cons (pe_call GCO hr2 rfl TCO.g TCO.F.kp TCO.b .nil pass0 (pa_cons (pe_ix ix_tup (pv 0) pe_int (fun _ _ => rfl)) (pa_cons (pe_ix ix_tup (pv 0) pe_int (fun _ _ => rfl)) (pa_cons (pe_ix ix_tup (pv 1) pe_int (fun _ _ => rfl)) pa_nil)))) pa_nil))))) pss_nil)
      (pss_cons (ps_if (PW.pt (pw_and (pt_val (pe_call GH hr1 rfl TH.g TH.F.kp TH.b .nil pass0 (pa_cons (pv 0) (pa_cons pe_str pa_nil)))) (pw_and (pt_val (pe_call GH hr1 rfl TH.g TH.F.kp TH.b .nil pass0 (pa_cons (pv 1) (pa_cons pe_str pa_nil)))) (pw_and1 (pt_cmpR (op_eqD (hu64 hr)) (pe_ix ix_tup (pv 0) pe_int (fun _ _ => rfl)) (pe_ix ix_tup (pv 1) pe_int (fun _ _ => rfl)) (nomark _)))))) (pss_one (ps_ret (pe_tup (pa_cons pe_str (pa_cons (pe_call GCU hr2 rfl TCU.g TCU.F.kp TCU.b .nil pass0 (pa_cons (pe_ix ix_tup (pv 0) pe_int (fun _ _ => rfl)) (pa_cons (pe_ix ix_tup (pv 0) pe_int (fun _ _ => rfl)) (pa_cons (pe_ix ix_tup (pv 1) pe_int (fun _ _ => rfl)) pa_nil)))) pa_nil))))) pss_nil)
      pss_never)))), ?_⟩
      refine ⟨v1, rfl, v1, _, rfl, t1, p1, z1, fun H1 s1 => ⟨v2, rfl, v2, _, rfl, t2.mono (TK.of_same s1), p2, z2, fun H2 s2 => ?_⟩⟩
      have s12 := s1.trans s2
      have t1 := t1.mono (TK.of_same s12)
      have t2 := t2.mono (TK.of_same s12)
      clear d1 d2
      refine ⟨_, rfl, v1, _, .ov, rfl, t1, false, rfl, iteF (iteF ?_)⟩
      refine ⟨_, rfl, v1, _, .un, rfl, t1, true, rfl, iteT ⟨_, rfl, v2, _, .un, rfl, t2, true, rfl, iteT ?_⟩⟩
      obtain ⟨q1, x, y, rfl, e1, hx, hy⟩ := tyN t1
      obtain ⟨q2, y', z, rfl, e2, hy', hz⟩ := tyN t2
      have pb : b.d.dep ≤ 60 := by simp only [dep_n] at p1; omega
      obtain ⟨A1, A2⟩ := ty_dp (K := K) hy pb
      obtain ⟨B1, B2⟩ := ty_dp (K := K) hy' pb
      refine ⟨_, rfl, q1, _, _, _, rfl, rfl, SqT.of e1, atI_nat (j := 2) rfl, _, rfl, q2, _, _, _, rfl, rfl, SqT.of e2, atI_nat (j := 1) rfl, _, _, A1, B1, A2, B2, ?_⟩
      rw [eqv_ty, decide_eq_true rfl]
      refine ⟨_, rfl, iteT ?_⟩
      exact yd_ret (yt2 (txtIs _ (by simp)) (yd_spR (yda3 (yd_ixT (i := 1) (yd_var (by rfl) t1.d) rfl) (yd_ixT (i := 2) (yd_var (by rfl) t1.d) rfl) (yd_ixT (i := 2) (yd_var (by rfl) t2.d) rfl)) rfl ⟨a, b, c, rfl, rfl⟩)) (Same.refl H2) fun v' H' s' h' => q v' H' (s12.trans s') h'
theorem ok_dividing {f fc fh fCO fCU : Addr} {fd fdc fdh fdCO fdCU : FuncData} (T : Top K mg "dividing" sDividing pDividing f fd) (TC : Top K mg "check_kind" sCheckKind pCheckKind fc fdc) (TH : Top K mg "has_sign" sHasSign pHasSign fh fdh) (TCO : Top K mg "_composed_over" sComposedOver pComposedOver fCO fdCO) (TCU : Top K mg "_composed_under" sComposedUnder pComposedUnder fCU fdCU)
    (GC : FnOk P w K mg base CX0 3 fc fdc pCheckKind spCheckKindT) (GH : FnOk P w K mg base CX0 1 fh fdh pHasSign spHasSign) (GCO : FnOk P w K mg base CX0 2 fCO fdCO pComposedOver (spR 3 RCO)) (GCU : FnOk P w K mg base CX0 2 fCU fdCU pComposedUnder (spR 3 RCU)) : FnOk P w K mg base CX0 4 f fd pDividing (spN 2 2) := by
  refine T.F.ok scDividing (fun vs H Q E h => ?_) (fun cdv A outer s H vs Q E hr h => ?_)
  · obtain ⟨_, _, _, _, l, _⟩ := h
    exact l
  · obtain ⟨_, _, _, _, _, hd, hc, hs, q⟩ := h
    have hr1 : Room 1 _ := hr.mono (by decide)
    have hr2 : Room 2 _ := hr.mono (by decide)
    cases hc with
    | @d0 a b c h1 h2 h3 =>
      obtain ⟨v1, v2, rfl, d1, d2⟩ := dsAt2 hd
      have t1 : TyAt H v1 (.n .ov a b) := d1.ty (Ty.ty_d _ ⟨h1, h2⟩)
      obtain ⟨p1, z1⟩ := hs (Ty.d (.n .ov a b)) (by simp)
      have t2 : TyAt H v2 (c) := d2.ty (Ty.ty_d _ h3)
      obtain ⟨p2, z2⟩ := hs (Ty.d (c)) (by simp)
      refine ⟨_, (pss_cons (ps_expr (pe_call GC hr rfl TC.g TC.F.kp TC.b .nil pass0 (pa_cons (pv 0) pa_nil)))
      (pss_cons (ps_expr (pe_call GC hr rfl TC.g TC.F.kp TC.b .nil pass0 (pa_cons (pv 1) pa_nil)))
      (pss_cons (ps_if (pt_val (pe_call GH hr1 rfl TH.g TH.F.kp TH.b .nil pass0 (pa_cons (pv 0) (pa_cons pe_str pa_nil)))) (pss_one (ps_ret (pe_tup (pa_cons pe_str (pa_cons (pe_tup (pa_cons pe_str (pa_cons (pe_call GCO hr2 rfl TCO.g TCO.F.kp TCO.b .nil pass0 (pa_cons (pe_ix ix_tup (pv 0) pe_int (fun _ _ => rfl)) (pa_cons (pe_ix ix_tup (pv 0) pe_int (fun _ _ => rfl)) (pa_cons (pv 1) pa_nil)))) pa_nil))) pa_nil))))) pss_nil)
      (pss_cons (ps_if (pt_val (pe_call GH hr1 rfl TH.g TH.F.kp TH.b .nil pass0 (pa_cons (pv 0) (pa_cons pe_str pa_nil)))) (pss_one (ps_ret (pe_tup (pa_cons pe_str (pa_cons (pe_tup (pa_cons pe_str (pa_cons (pe_call GCU hr2 rfl TCU.g TCU.F.kp TCU.b .nil pass0 (pa_cons (pv 1) (pa_cons (pe_ix ix_tup (pv 0) pe_int (fun _ _ => rfl)) (pa_cons (pe_ix ix_tup (pv 0) pe_int (fun _ _ => rfl)) pa_nil)))) pa_nil))) pa_nil))))) pss_nil)
      pss_never)))), ?_⟩
      refine ⟨v1, rfl, v1, _, rfl, t1, p1, z1, fun H1 s1 => ⟨v2, rfl, v2, _, rfl, t2.mono (TK.of_same s1), p2, z2, fun H2 s2 => ?_⟩⟩
      have s12 := s1.trans s2
      have t1 := t1.mono (TK.of_same s12)
      have t2 := t2.mono (TK.of_same s12)
      clear d1 d2
      refine ⟨_, rfl, v1, _, .ov, rfl, t1, true, rfl, iteT ?_⟩
      exact yd_ret (yt2 (txtIs _ (by simp)) (yt2 (txtIs _ (by simp)) (yd_spR (yda3 (yd_ixT (i := 1) (yd_var (by rfl) t1.d) rfl) (yd_ixT (i := 2) (yd_var (by rfl) t1.d) rfl) (yd_var (by rfl) t2.d)) rfl ⟨a, b, c, rfl, rfl⟩))) (Same.refl H2) fun v' H' s' h' => q v' H' (s12.trans s') h'
    | @d1 a b c h1 h2 h3 =>
      obtain ⟨v1, v2, rfl, d1, d2⟩ := dsAt2 hd
      have t1 : TyAt H v1 (.n .un b a) := d1.ty (Ty.ty_d _ ⟨h2, h1⟩)
      obtain ⟨p1, z1⟩ := hs (Ty.d (.n .un b a)) (by simp)
      have t2 : TyAt H v2 (c) := d2.ty (Ty.ty_d _ h3)
      obtain ⟨p2, z2⟩ := hs (Ty.d (c)) (by simp)
      refine ⟨_, (pss_cons (ps_expr (pe_call GC hr rfl TC.g TC.F.kp TC.b .nil pass0 (pa_cons (pv 0) pa_nil)))
      (pss_cons (ps_expr (pe_call GC hr rfl TC.g TC.F.kp TC.b .nil pass0 (pa_cons (pv 1) pa_nil)))
      (pss_cons (ps_if (pt_val (pe_call GH hr1 rfl TH.g TH.F.kp TH.b .nil pass0 (pa_cons (pv 0) (pa_cons pe_str pa_nil)))) (pss_one (ps_ret (pe_tup (pa_cons pe_str (pa_cons (pe_tup (pa_cons pe_str (pa_cons (pe_call GCO hr2 rfl TCO.g TCO.F.kp TCO.b .nil pass0 (pa_cons (pe_ix ix_tup (pv 0) pe_int (fun _ _ => rfl)) (pa_cons (pe_ix ix_tup (pv 0) pe_int (fun _ _ => rfl)) (pa_cons (pv 1) pa_nil)))) pa_nil))) pa_nil))))) pss_nil)
      (pss_cons (ps_if (pt_val (pe_call GH hr1 rfl TH.g TH.F.kp TH.b .nil pass0 (pa_cons (pv 0) (pa_cons pe_str pa_nil)))) (pss_one (ps_ret (pe_tup (pa_cons pe_str (pa_cons (pe_tup (pa_cons pe_str (pa_cons (pe_call GCU hr2 rfl TCU.g TCU.F.kp TCU.b .nil pass0 (pa_cons (pv 1) (pa_cons (pe_ix ix_tup (pv 0) pe_int (fun _ _ => rfl)) (pa_cons (pe_ix ix_tup (pv 0) pe_int (fun _ _ => rfl)) pa_nil)))) pa_nil))) pa_nil))))) pss_nil)
      pss_never)))), ?_⟩
      refine ⟨v1, rfl, v1, _, rfl, t1, p1, z1, fun H1 s1 => ⟨v2, rfl, v2, _, rfl, t2.mono (TK.of_same s1), p2, z2, fun H2 s2 => ?_⟩⟩
      have s12 := s1.trans s2
      have t1 := t1.mono (TK.of_same s12)
      have t2 := t2.mono (TK.of_same s12)
      clear d1 d2
      refine ⟨_, rfl, v1, _, .ov, rfl, t1, false, rfl, iteF ?_⟩
      refine ⟨_, rfl, v1, _, .un, rfl, t1, true, rfl, iteT ?_⟩
      exact yd_ret (yt2 (txtIs _ (by simp)) (yt2 (txtIs _ (by simp)) (yd_spR (yda3 (yd_var (by rfl) t2.d) (yd_ixT (i := 1) (yd_var (by rfl) t1.d) rfl) (yd_ixT (i := 2) (yd_var (by rfl) t1.d) rfl)) rfl ⟨a, b, c, rfl, rfl⟩))) (Same.refl H2) fun v' H' s' h' => q v' H' (s12.trans s') h'
theorem ok_swapping {f fc fh fO fU : Addr} {fd fdc fdh fdO fdU : FuncData} (T : Top K mg "swapping" sSwapping pSwapping f fd) (TC : Top K mg "check_kind" sCheckKind pCheckKind fc fdc) (TH : Top K mg "has_sign" sHasSign pHasSign fh fdh) (TO : Top K mg "_over" sOver pOver fO fdO) (TU : Top K mg "_under" sUnder pUnder fU fdU)
    (GC : FnOk P w K mg base CX0 3 fc fdc pCheckKind spCheckKindT) (GH : FnOk P w K mg base CX0 1 fh fdh pHasSign spHasSign) (GO : FnOk P w K mg base CX0 1 fO fdO pOver (spR 2 RO)) (GU : FnOk P w K mg base CX0 1 fU fdU pUnder (spR 2 RU)) : FnOk P w K mg base CX0 4 f fd pSwapping (spN 3 1) := by
  refine T.F.ok scSwapping (fun vs H Q E h => ?_) (fun cdv A outer s H vs Q E hr h => ?_)
  · obtain ⟨_, _, _, _, l, _⟩ := h
    exact l
  · obtain ⟨_, _, _, _, _, hd, hc, hs, q⟩ := h
    have hr1 : Room 1 _ := hr.mono (by decide)
    have hr2 : Room 2 _ := hr.mono (by decide)
    cases hc with
    | @s0 a b c h1 h2 h3 =>
      obtain ⟨v1, rfl, d1⟩ := dsAt1 hd
      have t1 : TyAt H v1 (.n .ov (.n .un b a) c) := d1.ty (Ty.ty_d _ ⟨⟨h2, h1⟩, h3⟩)
      obtain ⟨p1, z1⟩ := hs (Ty.d (.n .ov (.n .un b a) c)) (by simp)
      refine ⟨_, (pss_cons (ps_expr (pe_call GC hr rfl TC.g TC.F.kp TC.b .nil pass0 (pa_cons (pv 0) pa_nil)))
      (pss_cons (ps_if (PW.pt (pw_and (pt_val (pe_call GH hr1 rfl TH.g TH.F.kp TH.b .nil pass0 (pa_cons (pv 0) (pa_cons pe_str pa_nil)))) (pw_and1 (pt_val (pe_call GH hr1 rfl TH.g TH.F.kp TH.b .nil pass0 (pa_cons (pe_ix ix_tup (pv 0) pe_int (fun _ _ => rfl)) (pa_cons pe_str pa_nil))))))) (pss_cons (ps_asg (pv 0) (pg_tup (by rfl) (pgs_cons (pg_name (i := 1) scSwapping.nd rfl (Or.inl rfl)) (pgs_cons (pg_tup (by rfl) (pgs_cons (pg_name (i := 1) scSwapping.nd rfl (Or.inl rfl)) (pgs_cons (pg_name (i := 2) scSwapping.nd rfl (Or.inl rfl)) (pgs_cons (pg_name (i := 3) scSwapping.nd rfl (Or.inl rfl)) pgs_nil)))) (pgs_cons (pg_name (i := 4) scSwapping.nd rfl (Or.inl rfl)) pgs_nil)))))
      (pss_cons (ps_set (i := 5) scSwapping.nd rfl (Or.inl rfl) (pe_tup (pa_cons pe_str (pa_cons pe_int (pa_cons (pe_tup (pa_cons pe_str (pa_cons (pv 4) pa_nil))) (pa_cons (pe_call GU hr1 rfl TU.g TU.F.kp TU.b .nil pass0 (pa_cons (pe_tup (pa_cons pe_str (pa_cons (pv 3) pa_nil))) (pa_cons (pv 2) pa_nil))) pa_nil))))))
      (pss_one (ps_ret (pe_tup (pa_cons pe_str (pa_cons (pe_tup (pa_cons pe_str (pa_cons (pv 5) pa_nil))) pa_nil))))))) pss_nil)
      (pss_cons (ps_if (PW.pt (pw_and (pt_val (pe_call GH hr1 rfl TH.g TH.F.kp TH.b .nil pass0 (pa_cons (pv 0) (pa_cons pe_str pa_nil)))) (pw_and1 (pt_val (pe_call GH hr1 rfl TH.g TH.F.kp TH.b .nil pass0 (pa_cons (pe_ix ix_tup (pv 0) pe_int (fun _ _ => rfl)) (pa_cons pe_str pa_nil))))))) (pss_cons (ps_asg (pv 0) (pg_tup (by rfl) (pgs_cons (pg_name (i := 1) scSwapping.nd rfl (Or.inl rfl)) (pgs_cons (pg_name (i := 2) scSwapping.nd rfl (Or.inl rfl)) (pgs_cons (pg_tup (by rfl) (pgs_cons (pg_name (i := 1) scSwapping.nd rfl (Or.inl rfl)) (pgs_cons (pg_name (i := 3) scSwapping.nd rfl (Or.inl rfl)) (pgs_cons (pg_name (i := 4) scSwapping.nd rfl (Or.inl rfl)) pgs_nil)))) pgs_nil)))))
      (pss_cons (ps_set (i := 5) scSwapping.nd rfl (Or.inl rfl) (pe_call GU hr1 rfl TU.g TU.F.kp TU.b .nil pass0 (pa_cons (pe_call GO hr1 rfl TO.g TO.F.kp TO.b .nil pass0 (pa_cons (pe_tup (pa_cons pe_str (pa_cons (pv 3) pa_nil))) (pa_cons (pv 4) pa_nil))) (pa_cons (pv 2) pa_nil))))
      (pss_one (ps_ret (pe_tup (pa_cons pe_str (pa_cons (pe_tup (pa_cons pe_str (pa_cons (pv 5) pa_nil))) pa_nil))))))) pss_nil)
      pss_never))), ?_⟩
      refine ⟨v1, rfl, v1, _, rfl, t1, p1, z1, fun H2 s12 => ?_⟩
      have t1 := t1.mono (TK.of_same s12)
      clear d1
      obtain ⟨q1, x, y, rfl, e1, hx, hy⟩ := tyN t1
      refine ⟨_, rfl, _, _, .ov, rfl, t1, true, rfl, iteT ⟨_, rfl, q1, _, _, _, rfl, rfl, SqT.of e1, atI_nat (j := 1) rfl, x, _, .un, rfl, hx, true, rfl, iteT ?_⟩⟩
      obtain ⟨q2, m1, m2, rfl, e2, hm1, hm2⟩ := tyN hx
      refine ⟨_, rfl, q1, _, rfl, SqT.of e1, rfl, _, _, rfl, _, _, rfl, q2, _, rfl, SqT.of e2, rfl, _, _, rfl, _, _, rfl, _, _, rfl, rfl, _, _, rfl, rfl, ?_⟩
      refine yd_set (d := .t [.s "over used", .i 1, isD c, unD b.d (isD a)]) (yt4 (d := .i 1) (txtIs _ (by simp)) yd_int (yt2 (txtIs _ (by simp)) (yd_var (by rfl) hy.d)) (yd_spR (yda2 (yt2 (txtIs _ (by simp)) (yd_var (by rfl) hm2.d)) (yd_var (by rfl) hm1.d)) rfl ⟨_, _, rfl, rfl⟩)) (Same.refl H2) fun u0 H3 s3 hu => ?_
      exact yd_ret (yt2 (txtIs _ (by simp)) (yt2 (txtIs _ (by simp)) (yd_var (by rfl) hu))) (Same.refl H3) fun v' H' s' h' => q v' H' ((s12.trans s3).trans s') h'
    | @s1 a b c h1 h2 h3 =>
      obtain ⟨v1, rfl, d1⟩ := dsAt1 hd
      have t1 : TyAt H v1 (.n .un b (.n .ov a c)) := d1.ty (Ty.ty_d _ ⟨h2, h1, h3⟩)
      obtain ⟨p1, z1⟩ := hs (Ty.d (.n .un b (.n .ov a c))) (by simp)
      refine ⟨_, (pss_cons (ps_expr (pe_call GC hr rfl TC.g TC.F.kp TC.b .nil pass0 (pa_cons (pv 0) pa_nil)))
      (pss_cons (ps_if (PW.pt (pw_and (pt_val (pe_call GH hr1 rfl TH.g TH.F.kp TH.b .nil pass0 (pa_cons (pv 0) (pa_cons pe_str pa_nil)))) (pw_and1 (pt_val (pe_call GH hr1 rfl TH.g TH.F.kp TH.b .nil pass0 (pa_cons (pe_ix ix_tup (pv 0) pe_int (fun _ _ => rfl)) (pa_cons pe_str pa_nil))))))) (pss_cons (ps_asg (pv 0) (pg_tup (by rfl) (pgs_cons (pg_name (i := 1) scSwapping.nd rfl (Or.inl rfl)) (pgs_cons (pg_tup (by rfl) (pgs_cons (pg_name (i := 1) scSwapping.nd rfl (Or.inl rfl)) (pgs_cons (pg_name (i := 2) scSwapping.nd rfl (Or.inl rfl)) (pgs_cons (pg_name (i := 3) scSwapping.nd rfl (Or.inl rfl)) pgs_nil)))) (pgs_cons (pg_name (i := 4) scSwapping.nd rfl (Or.inl rfl)) pgs_nil)))))
      (pss_cons (ps_set (i := 5) scSwapping.nd rfl (Or.inl rfl) (pe_tup (pa_cons pe_str (pa_cons pe_int (pa_cons (pe_tup (pa_cons pe_str (pa_cons (pv 4) pa_nil))) (pa_cons (pe_call GU hr1 rfl TU.g TU.F.kp TU.b .nil pass0 (pa_cons (pe_tup (pa_cons pe_str (pa_cons (pv 3) pa_nil))) (pa_cons (pv 2) pa_nil))) pa_nil))))))
      (pss_one (ps_ret (pe_tup (pa_cons pe_str (pa_cons (pe_tup (pa_cons pe_str (pa_cons (pv 5) pa_nil))) pa_nil))))))) pss_nil)
      (pss_cons (ps_if (PW.pt (pw_and (pt_val (pe_call GH hr1 rfl TH.g TH.F.kp TH.b .nil pass0 (pa_cons (pv 0) (pa_cons pe_str pa_nil)))) (pw_and1 (pt_val (pe_call GH hr1 rfl TH.g TH.F.kp TH.b .nil pass0 (pa_cons (pe_ix ix_tup (pv 0) pe_int (fun _ _ => rfl)) (pa_cons pe_str pa_nil))))))) (pss_cons (ps_asg (pv 0) (pg_tup (by rfl) (pgs_cons (pg_name (i := 1) scSwapping.nd rfl (Or.inl rfl)) (pgs_cons (pg_name (i := 2) scSwapping.nd rfl (Or.inl rfl)) (pgs_cons (pg_tup (by rfl) (pgs_cons (pg_name (i := 1) scSwapping.nd rfl (Or.inl rfl)) (pgs_cons (pg_name (i := 3) scSwapping.nd rfl (Or.inl rfl)) (pgs_cons (pg_name (i := 4) scSwapping.nd rfl (Or.inl rfl)) pgs_nil)))) pgs_nil)))))
      (pss_cons (ps_set (i := 5) scSwapping.nd rfl (Or.inl rfl) (pe_call GU hr1 rfl TU.g TU.F.kp TU.b .nil pass0 (pa_cons (pe_call GO hr1 rfl TO.g TO.F.kp TO.b .nil pass0 (pa_cons (pe_tup (pa_cons pe_str (pa_cons (pv 3) pa_nil))) (pa_cons (pv 4) pa_nil))) (pa_cons (pv 2) pa_nil))))
      (pss_one (ps_ret (pe_tup (pa_cons pe_str (pa_cons (pe_tup (pa_cons pe_str (pa_cons (pv 5) pa_nil))) pa_nil))))))) pss_nil)
      pss_never))), ?_⟩
      refine ⟨v1, rfl, v1, _, rfl, t1, p1, z1, fun H2 s12 => ?_⟩
      have t1 := t1.mono (TK.of_same s12)
      clear d1
      refine ⟨_, rfl, v1, _, .ov, rfl, t1, false, rfl, iteF (iteF ?_)⟩
      obtain ⟨q1, x, y, rfl, e1, hx, hy⟩ := tyN t1
      refine ⟨_, rfl, _, _, .un, rfl, t1, true, rfl, iteT ⟨_, rfl, q1, _, _, _, rfl, rfl, SqT.of e1, atI_nat (j := 2) rfl, y, _, .ov, rfl, hy, true, rfl, iteT ?_⟩⟩
      obtain ⟨q2, m1, m2, rfl, e2, hm1, hm2⟩ := tyN hy
      refine ⟨_, rfl, q1, _, rfl, SqT.of e1, rfl, _, _, rfl, _, _, rfl, _, _, rfl, q2, _, rfl, SqT.of e2, rfl, _, _, rfl, _, _, rfl, _, _, rfl, rfl, rfl, ?_⟩
      refine yd_set (d := unD b.d (ovD c.d (isD a))) (yd_spR (yda2 (yd_spR (yda2 (yt2 (txtIs _ (by simp)) (yd_var (by rfl) hm1.d)) (yd_var (by rfl) hm2.d)) rfl ⟨_, _, rfl, rfl⟩) (yd_var (by rfl) hx.d)) rfl ⟨_, _, rfl, rfl⟩) (Same.refl H2) fun u0 H3 s3 hu => ?_
      exact yd_ret (yt2 (txtIs _ (by simp)) (yt2 (txtIs _ (by simp)) (yd_var (by rfl) hu))) (Same.refl H3) fun v' H' s' h' => q v' H' ((s12.trans s3).trans s') h'
theorem ok_parting {f fc fh  : Addr} {fd fdc fdh  : FuncData} (T : Top K mg "parting" sParting pParting f fd) (TC : Top K mg "check_kind" sCheckKind pCheckKind fc fdc) (TH : Top K mg "has_sign" sHasSign pHasSign fh fdh) 
    (GC : FnOk P w K mg base CX0 3 fc fdc pCheckKind spCheckKindT) (GH : FnOk P w K mg base CX0 1 fh fdh pHasSign spHasSign)  : FnOk P w K mg base CX0 4 f fd pParting (spN 4 1) := by
  refine T.F.ok scParting (fun vs H Q E h => ?_) (fun cdv A outer s H vs Q E hr h => ?_)
  · obtain ⟨_, _, _, _, l, _⟩ := h
    exact l
  · obtain ⟨_, _, _, _, _, hd, hc, hs, q⟩ := h
    have hr1 : Room 1 _ := hr.mono (by decide)
    have hr2 : Room 2 _ := hr.mono (by decide)
    cases hc with
    | @p0 a b c h1 h2 h3 =>
      obtain ⟨v1, rfl, d1⟩ := dsAt1 hd
      have t1 : TyAt H v1 (.n .ov a (.n .th b c)) := d1.ty (Ty.ty_d _ ⟨h1, h2, h3⟩)
      obtain ⟨p1, z1⟩ := hs (Ty.d (.n .ov a (.n .th b c))) (by simp)
      refine ⟨_, (pss_cons (ps_expr (pe_call GC hr rfl TC.g TC.F.kp TC.b .nil pass0 (pa_cons (pv 0) pa_nil)))
      (pss_cons (ps_if (PW.pt (pw_and (pt_val (pe_call GH hr1 rfl TH.g TH.F.kp TH.b .nil pass0 (pa_cons (pv 0) (pa_cons pe_str pa_nil)))) (pw_and1 (pt_val (pe_call GH hr1 rfl TH.g TH.F.kp TH.b .nil pass0 (pa_cons (pe_ix ix_tup (pv 0) pe_int (fun _ _ => rfl)) (pa_cons pe_str pa_nil))))))) (pss_cons (ps_asg (pv 0) (pg_tup (by rfl) (pgs_cons (pg_name (i := 1) scParting.nd rfl (Or.inl rfl)) (pgs_cons (pg_name (i := 2) scParting.nd rfl (Or.inl rfl)) (pgs_cons (pg_tup (by rfl) (pgs_cons (pg_name (i := 1) scParting.nd rfl (Or.inl rfl)) (pgs_cons (pg_name (i := 3) scParting.nd rfl (Or.inl rfl)) (pgs_cons (pg_name (i := 4) scParting.nd rfl (Or.inl rfl)) pgs_nil)))) pgs_nil)))))
      (pss_cons (ps_set (i := 5) scParting.nd rfl (Or.inl rfl) (pe_tup (pa_cons pe_str (pa_cons (pe_tup (pa_cons pe_str (pa_cons (pv 3) pa_nil))) (pa_cons (pe_tup (pa_cons pe_str (pa_cons (pv 4) pa_nil))) pa_nil)))))
      (pss_one (ps_ret (pe_tup (pa_cons pe_str (pa_cons (pe_tup (pa_cons pe_str (pa_cons (pe_tup (pa_cons pe_str (pa_cons pe_int (pa_cons (pv 5) (pa_cons (pe_tup (pa_cons pe_str (pa_cons (pv 2) pa_nil))) pa_nil))))) pa_nil))) pa_nil))))))) pss_nil)
      (pss_cons (ps_if (PW.pt (pw_and (pt_val (pe_call GH hr1 rfl TH.g TH.F.kp TH.b .nil pass0 (pa_cons (pv 0) (pa_cons pe_str pa_nil)))) (pw_and1 (pt_val (pe_call GH hr1 rfl TH.g TH.F.kp TH.b .nil pass0 (pa_cons (pe_ix ix_tup (pv 0) pe_int (fun _ _ => rfl)) (pa_cons pe_str pa_nil))))))) (pss_cons (ps_asg (pv 0) (pg_tup (by rfl) (pgs_cons (pg_name (i := 1) scParting.nd rfl (Or.inl rfl)) (pgs_cons (pg_tup (by rfl) (pgs_cons (pg_name (i := 1) scParting.nd rfl (Or.inl rfl)) (pgs_cons (pg_name (i := 3) scParting.nd rfl (Or.inl rfl)) (pgs_cons (pg_name (i := 4) scParting.nd rfl (Or.inl rfl)) pgs_nil)))) (pgs_cons (pg_name (i := 2) scParting.nd rfl (Or.inl rfl)) pgs_nil)))))
      (pss_cons (ps_set (i := 5) scParting.nd rfl (Or.inl rfl) (pe_tup (pa_cons pe_str (pa_cons (pe_tup (pa_cons pe_str (pa_cons (pv 3) pa_nil))) (pa_cons (pe_tup (pa_cons pe_str (pa_cons (pv 4) pa_nil))) pa_nil)))))
      (pss_one (ps_ret (pe_tup (pa_cons pe_str (pa_cons (pe_tup (pa_cons pe_str (pa_cons (pe_tup (pa_cons pe_str (pa_cons pe_int (pa_cons (pv 5) (pa_cons (pe_tup (pa_cons pe_str (pa_cons (pv 2) pa_nil))) pa_nil))))) pa_nil))) pa_nil))))))) pss_nil)
      pss_never))), ?_⟩
      refine ⟨v1, rfl, v1, _, rfl, t1, p1, z1, fun H2 s12 => ?_⟩
      have t1 := t1.mono (TK.of_same s12)
      clear d1
      obtain ⟨q1, x, y, rfl, e1, hx, hy⟩ := tyN t1
      refine ⟨_, rfl, _, _, .ov, rfl, t1, true, rfl, iteT ⟨_, rfl, q1, _, _, _, rfl, rfl, SqT.of e1, atI_nat (j := 2) rfl, y, _, .th, rfl, hy, true, rfl, iteT ?_⟩⟩
      obtain ⟨q2, m1, m2, rfl, e2, hm1, hm2⟩ := tyN hy
      refine ⟨_, rfl, q1, _, rfl, SqT.of e1, rfl, _, _, rfl, _, _, rfl, _, _, rfl, q2, _, rfl, SqT.of e2, rfl, _, _, rfl, _, _, rfl, _, _, rfl, rfl, rfl, ?_⟩
      refine yd_set (d := .t [.s "then made", isD b, isD c]) (yt3 (txtIs _ (by simp)) (yt2 (txtIs _ (by simp)) (yd_var (by rfl) hm1.d)) (yt2 (txtIs _ (by simp)) (yd_var (by rfl) hm2.d))) (Same.refl H2) fun u0 H3 s3 hu => ?_
      exact yd_ret (yt2 (txtIs _ (by simp)) (yt2 (txtIs _ (by simp)) (yt4 (d := .i 0) (txtIs _ (by simp)) yd_int (yd_var (by rfl) hu) (yt2 (txtIs _ (by simp)) (yd_var (by rfl) (hx.d.mono (TK.of_same s3))))))) (Same.refl H3) fun v' H' s' h' => q v' H' ((s12.trans s3).trans s') h'
    | @p1 a b c h1 h2 h3 =>
      obtain ⟨v1, rfl, d1⟩ := dsAt1 hd
      have t1 : TyAt H v1 (.n .un (.n .th b c) a) := d1.ty (Ty.ty_d _ ⟨⟨h2, h3⟩, h1⟩)
      obtain ⟨p1, z1⟩ := hs (Ty.d (.n .un (.n .th b c) a)) (by simp)
      refine ⟨_, (pss_cons (ps_expr (pe_call GC hr rfl TC.g TC.F.kp TC.b .nil pass0 (pa_cons (pv 0) pa_nil)))
      (pss_cons (ps_if (PW.pt (pw_and (pt_val (pe_call GH hr1 rfl TH.g TH.F.kp TH.b .nil pass0 (pa_cons (pv 0) (pa_cons pe_str pa_nil)))) (pw_and1 (pt_val (pe_call GH hr1 rfl TH.g TH.F.kp TH.b .nil pass0 (pa_cons (pe_ix ix_tup (pv 0) pe_int (fun _ _ => rfl)) (pa_cons pe_str pa_nil))))))) (pss_cons (ps_asg (pv 0) (pg_tup (by rfl) (pgs_cons (pg_name (i := 1) scParting.nd rfl (Or.inl rfl)) (pgs_cons (pg_name (i := 2) scParting.nd rfl (Or.inl rfl)) (pgs_cons (pg_tup (by rfl) (pgs_cons (pg_name (i := 1) scParting.nd rfl (Or.inl rfl)) (pgs_cons (pg_name (i := 3) scParting.nd rfl (Or.inl rfl)) (pgs_cons (pg_name (i := 4) scParting.nd rfl (Or.inl rfl)) pgs_nil)))) pgs_nil)))))
      (pss_cons (ps_set (i := 5) scParting.nd rfl (Or.inl rfl) (pe_tup (pa_cons pe_str (pa_cons (pe_tup (pa_cons pe_str (pa_cons (pv 3) pa_nil))) (pa_cons (pe_tup (pa_cons pe_str (pa_cons (pv 4) pa_nil))) pa_nil)))))
      (pss_one (ps_ret (pe_tup (pa_cons pe_str (pa_cons (pe_tup (pa_cons pe_str (pa_cons (pe_tup (pa_cons pe_str (pa_cons pe_int (pa_cons (pv 5) (pa_cons (pe_tup (pa_cons pe_str (pa_cons (pv 2) pa_nil))) pa_nil))))) pa_nil))) pa_nil))))))) pss_nil)
      (pss_cons (ps_if (PW.pt (pw_and (pt_val (pe_call GH hr1 rfl TH.g TH.F.kp TH.b .nil pass0 (pa_cons (pv 0) (pa_cons pe_str pa_nil)))) (pw_and1 (pt_val (pe_call GH hr1 rfl TH.g TH.F.kp TH.b .nil pass0 (pa_cons (pe_ix ix_tup (pv 0) pe_int (fun _ _ => rfl)) (pa_cons pe_str pa_nil))))))) (pss_cons (ps_asg (pv 0) (pg_tup (by rfl) (pgs_cons (pg_name (i := 1) scParting.nd rfl (Or.inl rfl)) (pgs_cons (pg_tup (by rfl) (pgs_cons (pg_name (i := 1) scParting.nd rfl (Or.inl rfl)) (pgs_cons (pg_name (i := 3) scParting.nd rfl (Or.inl rfl)) (pgs_cons (pg_name (i := 4) scParting.nd rfl (Or.inl rfl)) pgs_nil)))) (pgs_cons (pg_name (i := 2) scParting.nd rfl (Or.inl rfl)) pgs_nil)))))
      (pss_cons (ps_set (i := 5) scParting.nd rfl (Or.inl rfl) (pe_tup (pa_cons pe_str (pa_cons (pe_tup (pa_cons pe_str (pa_cons (pv 3) pa_nil))) (pa_cons (pe_tup (pa_cons pe_str (pa_cons (pv 4) pa_nil))) pa_nil)))))
      (pss_one (ps_ret (pe_tup (pa_cons pe_str (pa_cons (pe_tup (pa_cons pe_str (pa_cons (pe_tup (pa_cons pe_str (pa_cons pe_int (pa_cons (pv 5) (pa_cons (pe_tup (pa_cons pe_str (pa_cons (pv 2) pa_nil))) pa_nil))))) pa_nil))) pa_nil))))))) pss_nil)
      pss_never))), ?_⟩
      refine ⟨v1, rfl, v1, _, rfl, t1, p1, z1, fun H2 s12 => ?_⟩
      have t1 := t1.mono (TK.of_same s12)
      clear d1
      refine ⟨_, rfl, v1, _, .ov, rfl, t1, false, rfl, iteF (iteF ?_)⟩
      obtain ⟨q1, x, y, rfl, e1, hx, hy⟩ := tyN t1
      refine ⟨_, rfl, _, _, .un, rfl, t1, true, rfl, iteT ⟨_, rfl, q1, _, _, _, rfl, rfl, SqT.of e1, atI_nat (j := 1) rfl, x, _, .th, rfl, hx, true, rfl, iteT ?_⟩⟩
      obtain ⟨q2, m1, m2, rfl, e2, hm1, hm2⟩ := tyN hx
      refine ⟨_, rfl, q1, _, rfl, SqT.of e1, rfl, _, _, rfl, _, _, rfl, q2, _, rfl, SqT.of e2, rfl, _, _, rfl, _, _, rfl, _, _, rfl, rfl, _, _, rfl, rfl, ?_⟩
      refine yd_set (d := .t [.s "then made", isD b, isD c]) (yt3 (txtIs _ (by simp)) (yt2 (txtIs _ (by simp)) (yd_var (by rfl) hm1.d)) (yt2 (txtIs _ (by simp)) (yd_var (by rfl) hm2.d))) (Same.refl H2) fun u0 H3 s3 hu => ?_
      exact yd_ret (yt2 (txtIs _ (by simp)) (yt2 (txtIs _ (by simp)) (yt4 (d := .i 0) (txtIs _ (by simp)) yd_int (yd_var (by rfl) hu) (yt2 (txtIs _ (by simp)) (yd_var (by rfl) (hy.d.mono (TK.of_same s3))))))) (Same.refl H3) fun v' H' s' h' => q v' H' ((s12.trans s3).trans s') h'
theorem ok_packing {f fc fh fO fU : Addr} {fd fdc fdh fdO fdU : FuncData} (T : Top K mg "packing" sPacking pPacking f fd) (TC : Top K mg "check_kind" sCheckKind pCheckKind fc fdc) (TH : Top K mg "has_sign" sHasSign pHasSign fh fdh) (TO : Top K mg "_over" sOver pOver fO fdO) (TU : Top K mg "_under" sUnder pUnder fU fdU)
    (GC : FnOk P w K mg base CX0 3 fc fdc pCheckKind spCheckKindT) (GH : FnOk P w K mg base CX0 1 fh fdh pHasSign spHasSign) (GO : FnOk P w K mg base CX0 1 fO fdO pOver (spR 2 RO)) (GU : FnOk P w K mg base CX0 1 fU fdU pUnder (spR 2 RU)) : FnOk P w K mg base CX0 4 f fd pPacking (spN 5 1) := by
  refine T.F.ok scPacking (fun vs H Q E h => ?_) (fun cdv A outer s H vs Q E hr h => ?_)
  · obtain ⟨_, _, _, _, l, _⟩ := h
    exact l
  · obtain ⟨_, _, _, _, _, hd, hc, hs, q⟩ := h
    have hr1 : Room 1 _ := hr.mono (by decide)
    have hr2 : Room 2 _ := hr.mono (by decide)
    cases hc with
    | @k0 a b c h1 h2 h3 =>
      obtain ⟨v1, rfl, d1⟩ := dsAt1 hd
      have t1 : TyAt H v1 (.n .ov (.n .ov a c) b) := d1.ty (Ty.ty_d _ ⟨⟨h1, h3⟩, h2⟩)
      obtain ⟨p1, z1⟩ := hs (Ty.d (.n .ov (.n .ov a c) b)) (by simp)
      refine ⟨_, (pss_cons (ps_expr (pe_call GC hr rfl TC.g TC.F.kp TC.b .nil pass0 (pa_cons (pv 0) pa_nil)))
      (pss_cons (ps_if (PW.pt (pw_and (pt_val (pe_call GH hr1 rfl TH.g TH.F.kp TH.b .nil pass0 (pa_cons (pv 0) (pa_cons pe_str pa_nil)))) (pw_and1 (pt_val (pe_call GH hr1 rfl TH.g TH.F.kp TH.b .nil pass0 (pa_cons (pe_ix ix_tup (pv 0) pe_int (fun _ _ => rfl)) (pa_cons pe_str pa_nil))))))) (pss_cons (ps_asg (pv 0) (pg_tup (by rfl) (pgs_cons (pg_name (i := 1) scPacking.nd rfl (Or.inl rfl)) (pgs_cons (pg_tup (by rfl) (pgs_cons (pg_name (i := 1) scPacking.nd rfl (Or.inl rfl)) (pgs_cons (pg_name (i := 2) scPacking.nd rfl (Or.inl rfl)) (pgs_cons (pg_name (i := 3) scPacking.nd rfl (Or.inl rfl)) pgs_nil)))) (pgs_cons (pg_name (i := 4) scPacking.nd rfl (Or.inl rfl)) pgs_nil)))))
      (pss_cons (ps_set (i := 5) scPacking.nd rfl (Or.inl rfl) (pe_call GO hr1 rfl TO.g TO.F.kp TO.b .nil pass0 (pa_cons (pe_call GO hr1 rfl TO.g TO.F.kp TO.b .nil pass0 (pa_cons (pe_tup (pa_cons pe_str (pa_cons (pv 2) pa_nil))) (pa_cons (pv 3) pa_nil))) (pa_cons (pv 4) pa_nil))))
      (pss_one (ps_ret (pe_tup (pa_cons pe_str (pa_cons (pe_tup (pa_cons pe_str (pa_cons pe_int (pa_cons (pv 5) pa_nil)))) pa_nil))))))) pss_nil)
      (pss_cons (ps_if (PW.pt (pw_and (pt_val (pe_call GH hr1 rfl TH.g TH.F.kp TH.b .nil pass0 (pa_cons (pv 0) (pa_cons pe_str pa_nil)))) (pw_and1 (pt_val (pe_call GH hr1 rfl TH.g TH.F.kp TH.b .nil pass0 (pa_cons (pe_ix ix_tup (pv 0) pe_int (fun _ _ => rfl)) (pa_cons pe_str pa_nil))))))) (pss_cons (ps_asg (pv 0) (pg_tup (by rfl) (pgs_cons (pg_name (i := 1) scPacking.nd rfl (Or.inl rfl)) (pgs_cons (pg_name (i := 3) scPacking.nd rfl (Or.inl rfl)) (pgs_cons (pg_tup (by rfl) (pgs_cons (pg_name (i := 1) scPacking.nd rfl (Or.inl rfl)) (pgs_cons (pg_name (i := 4) scPacking.nd rfl (Or.inl rfl)) (pgs_cons (pg_name (i := 2) scPacking.nd rfl (Or.inl rfl)) pgs_nil)))) pgs_nil)))))
      (pss_cons (ps_set (i := 5) scPacking.nd rfl (Or.inl rfl) (pe_tup (pa_cons pe_str (pa_cons pe_int (pa_cons (pe_tup (pa_cons pe_str (pa_cons (pv 3) pa_nil))) (pa_cons (pe_call GU hr1 rfl TU.g TU.F.kp TU.b .nil pass0 (pa_cons (pe_tup (pa_cons pe_str (pa_cons (pv 2) pa_nil))) (pa_cons (pv 4) pa_nil))) pa_nil))))))
      (pss_one (ps_ret (pe_tup (pa_cons pe_str (pa_cons (pe_tup (pa_cons pe_str (pa_cons pe_int (pa_cons (pv 5) pa_nil)))) pa_nil))))))) pss_nil)
      pss_never))), ?_⟩
      refine ⟨v1, rfl, v1, _, rfl, t1, p1, z1, fun H2 s12 => ?_⟩
      have t1 := t1.mono (TK.of_same s12)
      clear d1
      obtain ⟨q1, x, y, rfl, e1, hx, hy⟩ := tyN t1
      refine ⟨_, rfl, _, _, .ov, rfl, t1, true, rfl, iteT ⟨_, rfl, q1, _, _, _, rfl, rfl, SqT.of e1, atI_nat (j := 1) rfl, x, _, .ov, rfl, hx, true, rfl, iteT ?_⟩⟩
      obtain ⟨q2, m1, m2, rfl, e2, hm1, hm2⟩ := tyN hx
      refine ⟨_, rfl, q1, _, rfl, SqT.of e1, rfl, _, _, rfl, _, _, rfl, q2, _, rfl, SqT.of e2, rfl, _, _, rfl, _, _, rfl, _, _, rfl, rfl, _, _, rfl, rfl, ?_⟩
      refine yd_set (d := ovD b.d (ovD c.d (isD a))) (yd_spR (yda2 (yd_spR (yda2 (yt2 (txtIs _ (by simp)) (yd_var (by rfl) hm1.d)) (yd_var (by rfl) hm2.d)) rfl ⟨_, _, rfl, rfl⟩) (yd_var (by rfl) hy.d)) rfl ⟨_, _, rfl, rfl⟩) (Same.refl H2) fun u0 H3 s3 hu => ?_
      exact yd_ret (yt2 (txtIs _ (by simp)) (yt3 (d := .i 1) (txtIs _ (by simp)) yd_int (yd_var (by rfl) hu))) (Same.refl H3) fun v' H' s' h' => q v' H' ((s12.trans s3).trans s') h'
    | @k1 a b c h1 h2 h3 =>
      obtain ⟨v1, rfl, d1⟩ := dsAt1 hd
      have t1 : TyAt H v1 (.n .un c (.n .un b a)) := d1.ty (Ty.ty_d _ ⟨h3, h2, h1⟩)
      obtain ⟨p1, z1⟩ := hs (Ty.d (.n .un c (.n .un b a))) (by simp)
      refine ⟨_, (pss_cons (ps_expr (pe_call GC hr rfl TC.g TC.F.kp TC.b .nil pass0 (pa_cons (pv 0) pa_nil)))
      (pss_cons (ps_if (PW.pt (pw_and (pt_val (pe_call GH hr1 rfl TH.g TH.F.kp TH.b .nil pass0 (pa_cons (pv 0) (pa_cons pe_str pa_nil)))) (pw_and1 (pt_val (pe_call GH hr1 rfl TH.g TH.F.kp TH.b .nil pass0 (pa_cons (pe_ix ix_tup (pv 0) pe_int (fun _ _ => rfl)) (pa_cons pe_str pa_nil))))))) (pss_cons (ps_asg (pv 0) (pg_tup (by rfl) (pgs_cons (pg_name (i := 1) scPacking.nd rfl (Or.inl rfl)) (pgs_cons (pg_tup (by rfl) (pgs_cons (pg_name (i := 1) scPacking.nd rfl (Or.inl rfl)) (pgs_cons (pg_name (i := 2) scPacking.nd rfl (Or.inl rfl)) (pgs_cons (pg_name (i := 3) scPacking.nd rfl (Or.inl rfl)) pgs_nil)))) (pgs_cons (pg_name (i := 4) scPacking.nd rfl (Or.inl rfl)) pgs_nil)))))
      (pss_cons (ps_set (i := 5) scPacking.nd rfl (Or.inl rfl) (pe_call GO hr1 rfl TO.g TO.F.kp TO.b .nil pass0 (pa_cons (pe_call GO hr1 rfl TO.g TO.F.kp TO.b .nil pass0 (pa_cons (pe_tup (pa_cons pe_str (pa_cons (pv 2) pa_nil))) (pa_cons (pv 3) pa_nil))) (pa_cons (pv 4) pa_nil))))
      (pss_one (ps_ret (pe_tup (pa_cons pe_str (pa_cons (pe_tup (pa_cons pe_str (pa_cons pe_int (pa_cons (pv 5) pa_nil)))) pa_nil))))))) pss_nil)
      (pss_cons (ps_if (PW.pt (pw_and (pt_val (pe_call GH hr1 rfl TH.g TH.F.kp TH.b .nil pass0 (pa_cons (pv 0) (pa_cons pe_str pa_nil)))) (pw_and1 (pt_val (pe_call GH hr1 rfl TH.g TH.F.kp TH.b .nil pass0 (pa_cons (pe_ix ix_tup (pv 0) pe_int (fun _ _ => rfl)) (pa_cons pe_str pa_nil))))))) (pss_cons (ps_asg (pv 0) (pg_tup (by rfl) (pgs_cons (pg_name (i := 1) scPacking.nd rfl (Or.inl rfl)) (pgs_cons (pg_name (i := 3) scPacking.nd rfl (Or.inl rfl)) (pgs_cons (pg_tup (by rfl) (pgs_cons (pg_name (i := 1) scPacking.nd rfl (Or.inl rfl)) (pgs_cons (pg_name (i := 4) scPacking.nd rfl (Or.inl rfl)) (pgs_cons (pg_name (i := 2) scPacking.nd rfl (Or.inl rfl)) pgs_nil)))) pgs_nil)))))
      (pss_cons (ps_set (i := 5) scPacking.nd rfl (Or.inl rfl) (pe_tup (pa_cons pe_str (pa_cons pe_int (pa_cons (pe_tup (pa_cons pe_str (pa_cons (pv 3) pa_nil))) (pa_cons (pe_call GU hr1 rfl TU.g TU.F.kp TU.b .nil pass0 (pa_cons (pe_tup (pa_cons pe_str (pa_cons (pv 2) pa_nil))) (pa_cons (pv 4) pa_nil))) pa_nil))))))
      (pss_one (ps_ret (pe_tup (pa_cons pe_str (pa_cons (pe_tup (pa_cons pe_str (pa_cons pe_int (pa_cons (pv 5) pa_nil)))) pa_nil))))))) pss_nil)
      pss_never))), ?_⟩
      refine ⟨v1, rfl, v1, _, rfl, t1, p1, z1, fun H2 s12 => ?_⟩
      have t1 := t1.mono (TK.of_same s12)
      clear d1
      refine ⟨_, rfl, v1, _, .ov, rfl, t1, false, rfl, iteF (iteF ?_)⟩
      obtain ⟨q1, x, y, rfl, e1, hx, hy⟩ := tyN t1
      refine ⟨_, rfl, _, _, .un, rfl, t1, true, rfl, iteT ⟨_, rfl, q1, _, _, _, rfl, rfl, SqT.of e1, atI_nat (j := 2) rfl, y, _, .un, rfl, hy, true, rfl, iteT ?_⟩⟩
      obtain ⟨q2, m1, m2, rfl, e2, hm1, hm2⟩ := tyN hy
      refine ⟨_, rfl, q1, _, rfl, SqT.of e1, rfl, _, _, rfl, _, _, rfl, _, _, rfl, q2, _, rfl, SqT.of e2, rfl, _, _, rfl, _, _, rfl, _, _, rfl, rfl, rfl, ?_⟩
      refine yd_set (d := .t [.s "under used", .i 1, isD c, unD b.d (isD a)]) (yt4 (d := .i 1) (txtIs _ (by simp)) yd_int (yt2 (txtIs _ (by simp)) (yd_var (by rfl) hx.d)) (yd_spR (yda2 (yt2 (txtIs _ (by simp)) (yd_var (by rfl) hm2.d)) (yd_var (by rfl) hm1.d)) rfl ⟨_, _, rfl, rfl⟩)) (Same.refl H2) fun u0 H3 s3 hu => ?_
      exact yd_ret (yt2 (txtIs _ (by simp)) (yt3 (d := .i 0) (txtIs _ (by simp)) yd_int (yd_var (by rfl) hu))) (Same.refl H3) fun v' H' s' h' => q v' H' ((s12.trans s3).trans s') h'
end
end S4

namespace S4
open PySem PySem.Spec PyProof.Rows L2 LamX KT
open PySem.W (Frag)
/-- a few words -/
structure Wds (zs : List Str) : Prop where
  w : ∀ z ∈ zs, IsW z
  l1 : 1 ≤ zs.length
  l3 : zs.length ≤ 3
abbrev sgV : List V := [.str "over", .str "then", .str "under"]
theorem purse_ne_tup {H : Hp} {a S : Addr} {n : Nat} {xs : List V} (p : PurseAt H a n) (e : H S = some (.tup xs)) : S ≠ a := by
  rintro rfl
  obtain ⟨_, _, _, _, e', _⟩ := p
  rw [e'] at e
  cases e
section
variable {P : Program} {w : World} {K : Frag} {mg : Str → Option Value} {base : Heap}
def spOneOfT : Sp := fun vs H Q _ => ∃ (a L : Addr) (n : Nat) (xs : List V), vs = [.ref a, .ref L] ∧ PurseAt H a n ∧ n ≤ 1000000000000 ∧ H L = some (.tup xs) ∧ 1 ≤ xs.length ∧ xs.length < 1048576 ∧
  ∀ (i : Nat) (x : V) (H' : Hp), xs[i]? = some x → (∀ b, b ≠ a → H' b = H b) → PurseAt H' a (n + 1) → Q x H'
theorem ok_oneOfT {f fd_ : Addr} {fd fdd : FuncData} (T : Top K mg "_law_one_of" sLOneOf ["purse", "some"] f fd) (TD : Top K mg "_law_draw" sLDraw ["purse", "many"] fd_ fdd)
    (GD : FnOk P w K mg base CX0 2 fd_ fdd ["purse", "many"] spDraw) (B : Blt mg) : FnOk P w K mg base CX0 3 f fd ["purse", "some"] spOneOfT := by
  refine T.F.ok scLOneOf (fun vs H Q E h => ?_) (fun cdv A outer s H vs Q E hr h => ?_)
  · obtain ⟨_, _, _, _, rfl, _⟩ := h
    rfl
  · obtain ⟨a, L, n, xs, rfl, hp, hn, hL, h1, h2, k⟩ := h
    refine ⟨_, pss_one (ps_ret (pe_ix ix_tup (pv 1) (pe_call GD hr rfl TD.g TD.F.kp TD.b .nil pass0 (pa_cons (pv 0) (pa_cons (pe_callB call_len_seq (by rfl) B.len PySem.boot_len (pa_cons (pv 1) pa_nil)) pa_nil))) (fun _ _ => rfl))), ?_⟩
    refine ⟨_, rfl, _, rfl, _, rfl, L, _, rfl, .inr (SqT.of hL), a, n, _, rfl, hp, hn, by omega, by omega, fun d H' d0 d1 off hp' => ?_⟩
    obtain ⟨j, rfl⟩ := Int.eq_ofNat_of_zero_le d0
    have hj : j < xs.length := by omega
    refine ⟨L, xs, _, xs[j], rfl, rfl, SqT.of (by rw [off L (purse_ne_tup hp hL)]; exact hL), atI_nat (by simp [hj]), ?_⟩
    exact k j _ H' (by simp [hj]) off hp'
def spKindS (d : Nat) : Sp := fun vs H Q _ => ∃ (a L S : Addr) (n m : Nat) (zs : List Str), vs = [.ref a, .ref L, .int m, .ref S] ∧ PurseAt H a n ∧ n + 3 * m ≤ 600000000000 ∧ L ≠ a ∧ H L = some (.lst (zs.map V.str)) ∧ Wds zs ∧ H S = some (.tup sgV) ∧ m ≤ d ∧
  ∀ (x : V) (t : Ty) (H' : Hp), TyAt H' x t → t.signs = m → KeepBut a H H' → PurseAt H' a (n + 3 * m + 1) → Q x H'
theorem kindS_step {f fd_ fo : Addr} {fd fdd fdo : FuncData} (T : Top K mg "_law_kind" sLKind pLKind f fd) (TD : Top K mg "_law_draw" sLDraw ["purse", "many"] fd_ fdd) (TO : Top K mg "_law_one_of" sLOneOf ["purse", "some"] fo fdo)
    (GD : FnOk P w K mg base CX0 2 fd_ fdd ["purse", "many"] spDraw) (GO : FnOk P w K mg base CX0 3 fo fdo ["purse", "some"] spOneOf) (GT : FnOk P w K mg base CX0 3 fo fdo ["purse", "some"] spOneOfT) (B : Blt mg) {d m0 : Nat} {sp' : Sp} (hd : d ≤ 30) (hm0 : 3 ≤ m0) (GK : FnOk P w K mg base CX0 m0 f fd pLKind sp')
    (hsp : ∀ (a L S : Addr) (n m : Nat) (zs : List Str) (H : Hp) (Q : VK), PurseAt H a n → n + 3 * m ≤ 600000000000 → L ≠ a → H L = some (.lst (zs.map V.str)) → Wds zs → H S = some (.tup sgV) → m + 1 ≤ d → (∀ (x : V) (t : Ty) (H' : Hp), TyAt H' x t → t.signs = m → KeepBut a H H' → PurseAt H' a (n + 3 * m + 1) → Q x H') → sp' [.ref a, .ref L, .int m, .ref S] H Q L2.E0) : FnOk P w K mg base CX0 (m0 + 1) f fd pLKind (spKindS d) := by
  refine T.F.ok scLKind (fun vs H Q E h => ?_) (fun cdv A outer s H vs Q E hr h => ?_)
  · obtain ⟨_, _, _, _, _, _, rfl, _⟩ := h
    rfl
  · obtain ⟨a, L, S, n, m, zs, rfl, hp, hn, nLa, eL, hz, eS, hm, k⟩ := h
    have hr3 : Room 3 _ := hr.mono hm0
    have hr2 : Room 2 _ := hr3.mono (by omega)
    have l1 := hz.l1
    have l3 := hz.l3
    refine ⟨_, (pss_cons (ps_if (pt_cmpR op_eq (pv 2) pe_int (nomark _)) (pss_one (ps_ret (pe_call GO hr3 rfl TO.g TO.F.kp TO.b .nil pass0 (pa_cons (pv 0) (pa_cons (pv 1) pa_nil))))) pss_nil)
      (pss_cons (ps_set (i := 4) scLKind.nd rfl (Or.inl rfl) (pe_call GD hr2 rfl TD.g TD.F.kp TD.b .nil pass0 (pa_cons (pv 0) (pa_cons (pv 2) pa_nil))))
      (pss_one (ps_ret (pe_tup (pa_cons (pe_call GT hr3 rfl TO.g TO.F.kp TO.b .nil pass0 (pa_cons (pv 0) (pa_cons (pv 3) pa_nil))) (pa_cons (pe_call GK hr rfl T.g T.F.kp T.b .nil pass0 (pa_cons (pv 0) (pa_cons (pv 1) (pa_cons (pv 4) (pa_cons (pv 3) pa_nil))))) (pa_cons (pe_call GK hr rfl T.g T.F.kp T.b .nil pass0 (pa_cons (pv 0) (pa_cons (pv 1) (pa_cons (pe_op op_sub (pe_op op_sub (pv 2) pe_int) (pv 4)) (pa_cons (pv 3) pa_nil))))) pa_nil)))))))), ?_⟩
    refine ⟨_, rfl, rfl, _, rfl, ite2 (fun c => ?_) (fun c => ?_)⟩
    · have e0 : (V.int (m : Int)) = V.int 0 := of_decide_eq_true c
      obtain rfl : m = 0 := by
        injection e0 with e0
        omega
      refine ⟨_, rfl, _, rfl, a, L, n, _, rfl, hp, by omega, nLa, eL, by rw [List.length_map]; exact hz.l1, by rw [List.length_map]; omega, fun i x H' hx off hp' => ?_⟩
      rw [List.getElem?_map] at hx
      obtain ⟨z, hzi, rfl⟩ := Option.map_eq_some_iff.mp hx
      exact k _ (.w z) H' (.w (hz.w z (List.mem_of_getElem? hzi))) rfl (.of_off off) hp'
    · have hm0 : m ≠ 0 := fun e => c (by rw [e]; rfl)
      refine ⟨_, rfl, _, rfl, a, n, m, rfl, hp, by omega, by omega, by omega, fun d0 H1 c0 c1 off1 hp1 => ?_⟩
      obtain ⟨j, rfl⟩ := Int.eq_ofNat_of_zero_le c0
      have hj : j < m := by omega
      have kb1 : KeepBut a H H1 := .of_off off1
      have nS := purse_ne_tup hp eS
      refine ⟨_, rfl, _, rfl, a, S, n + 1, _, rfl, hp1, by omega, kb1 _ _ eS nS, by show 1 ≤ 3; omega, by show 3 < 1048576; omega, fun i x H2 hx off2 hp2 => ?_⟩
      have hg : ∃ g : Sg, x = .str g.str := by
        match i, hx with
        | 0, hx => exact ⟨.ov, (Option.some.inj hx).symm⟩
        | 1, hx => exact ⟨.th, (Option.some.inj hx).symm⟩
        | 2, hx => exact ⟨.un, (Option.some.inj hx).symm⟩
        | i + 3, hx => exact absurd hx (by simp)
      obtain ⟨g, rfl⟩ := hg
      have kb2 : KeepBut a H H2 := kb1.trans (.of_off off2)
      refine ⟨_, rfl, _, rfl, _, rfl, _, rfl, hsp a L S (n + 2) j zs _ _ hp2 (by omega) nLa (kb2 _ _ eL nLa) hz (kb2 _ _ eS nS) (by omega) fun x1 t1 H3 ht1 hs1 kb3 hp3 => ?_⟩
      have kb13 := kb2.trans kb3
      refine ⟨_, rfl, _, rfl, _, rfl, _, _, rfl, rfl, _, rfl, _, _, rfl, rfl, _, rfl, ?_⟩
      have em : (m : Int) - 1 - (j : Int) = ((m - 1 - j : Nat) : Int) := by omega
      dsimp only
      rw [em]
      refine hsp a L S (n + 2 + 3 * j + 1) (m - 1 - j) zs _ _ hp3 (by omega) nLa (kb13 _ _ eL nLa) hz (kb13 _ _ eS nS) (by omega) fun x2 t2 H4 ht2 hs2 kb4 hp4 => ?_
      refine ⟨by show 3 ≤ sizeLine; rw [sizeLine_eq]; omega, fun q nq => ?_⟩
      have kbA : KeepBut a H H4 := kb13.trans kb4
      have tk3 : TK H3 (upd H4 q (.tup [.str g.str, x1, x2])) := (TK.of_keepBut kb4 hp3).trans (TK.upd_new nq)
      refine k _ (.n g t1 t2) _ (.n upd_same (ht1.mono tk3) (ht2.mono (TK.upd_new nq))) ?_ (kbA.upd_new (kbA.free nq (hp4.ne nq).symm)) ((hp4.upd (hp4.ne nq)).mono (by omega))
      show 1 + t1.signs + t2.signs = m
      omega
theorem ok_kindS {f fd_ fo : Addr} {fd fdd fdo : FuncData} (T : Top K mg "_law_kind" sLKind pLKind f fd) (TD : Top K mg "_law_draw" sLDraw ["purse", "many"] fd_ fdd) (TO : Top K mg "_law_one_of" sLOneOf ["purse", "some"] fo fdo)
    (GD : FnOk P w K mg base CX0 2 fd_ fdd ["purse", "many"] spDraw) (GO : FnOk P w K mg base CX0 3 fo fdo ["purse", "some"] spOneOf) (GT : FnOk P w K mg base CX0 3 fo fdo ["purse", "some"] spOneOfT) (B : Blt mg) : ∀ d : Nat, d ≤ 30 → FnOk P w K mg base CX0 (4 + d) f fd pLKind (spKindS d)
  | 0, hd => kindS_step (m0 := 3) T TD TO GD GO GT B hd (by omega) (fn_vac.mono (by omega)) fun _ _ _ _ _ _ _ _ _ _ _ _ _ _ h _ => absurd h (by omega)
  | d + 1, hd => kindS_step (m0 := 4 + d) T TD TO GD GO GT B hd (by omega) (ok_kindS T TD TO GD GO GT B d (by omega)) fun a L S n m zs H Q h1 h2 h3 h4 h5 h6 h7 h8 => ⟨a, L, S, n, m, zs, rfl, h1, h2, h3, h4, h5, h6, by omega, h8⟩
def spSomeKind : Sp := fun vs H Q _ => ∃ (a L S : Addr) (n : Nat) (zs : List Str), vs = [.ref a, .ref L, .int 2, .ref S] ∧ PurseAt H a n ∧ n ≤ 500000000000 ∧ L ≠ a ∧ H L = some (.lst (zs.map V.str)) ∧ Wds zs ∧ H S = some (.tup sgV) ∧
  ∀ (x : V) (t : Ty) (H' : Hp), TyAt H' x t → t.signs ≤ 2 → KeepBut a H H' → PurseAt H' a (n + 8) → Q x H'
theorem ok_someKind {f fk fd_ : Addr} {fd fdk fdd : FuncData} (T : Top K mg "_law_some_kind" sLSomeKind pLSomeKind f fd) (TKd : Top K mg "_law_kind" sLKind pLKind fk fdk) (TD : Top K mg "_law_draw" sLDraw ["purse", "many"] fd_ fdd)
    (GD : FnOk P w K mg base CX0 2 fd_ fdd ["purse", "many"] spDraw) (GK : FnOk P w K mg base CX0 6 fk fdk pLKind (spKindS 2)) : FnOk P w K mg base CX0 7 f fd pLSomeKind spSomeKind := by
  refine T.F.ok scLSomeKind (fun vs H Q E h => ?_) (fun cdv A outer s H vs Q E hr h => ?_)
  · obtain ⟨_, _, _, _, _, rfl, _⟩ := h
    rfl
  · obtain ⟨a, L, S, n, zs, rfl, hp, hn, nLa, eL, hz, eS, k⟩ := h
    have hr2 : Room 2 _ := hr.mono (by decide)
    refine ⟨_, pss_one (ps_ret (pe_call GK hr rfl TKd.g TKd.F.kp TKd.b .nil pass0 (pa_cons (pv 0) (pa_cons (pv 1) (pa_cons (pe_call GD hr2 rfl TD.g TD.F.kp TD.b .nil pass0 (pa_cons (pv 0) (pa_cons (pe_op op_add (pv 2) pe_int) pa_nil))) (pa_cons (pv 3) pa_nil)))))), ?_⟩
    refine ⟨_, rfl, _, rfl, _, rfl, _, rfl, _, _, rfl, rfl, a, n, 3, rfl, hp, by omega, by omega, by omega, fun d H1 c0 c1 off hp1 => ?_⟩
    obtain ⟨m, rfl⟩ := Int.eq_ofNat_of_zero_le c0
    have kb1 : KeepBut a H H1 := .of_off off
    have nS := purse_ne_tup hp eS
    refine ⟨_, rfl, a, L, S, _, m, zs, rfl, hp1, by omega, nLa, kb1 _ _ eL nLa, hz, kb1 _ _ eS nS, by omega, fun x t H2 ht hs kb2 hp2 => k x t H2 ht (by omega) (kb1.trans kb2) (hp2.mono (by omega))⟩
def spPlainSome : Sp := fun vs H Q _ => ∃ (a : Addr) (n : Nat) (many : Int), vs = [.ref a, .int many] ∧ PurseAt H a n ∧ n ≤ 500000000000 ∧ 1 ≤ many ∧ many ≤ 3 ∧
  ∀ (L : Addr) (zs : List Str) (H' : Hp), Wds zs → KeepBut a H H' → L ≠ a → H' L = some (.lst (zs.map V.str)) → PurseAt H' a (n + 60) → Q (.ref L) H'
theorem ok_plainSome {f fw fo fd_ : Addr} {fd fdw fdo fdd : FuncData} (T : Top K mg "_law_plain_some" sLPlainSome pLPlainSome f fd) (TW : Top K mg "_law_words" sLWords pLWords fw fdw) (TO : Top K mg "_law_one_of" sLOneOf ["purse", "some"] fo fdo) (TD : Top K mg "_law_draw" sLDraw ["purse", "many"] fd_ fdd)
    (GD : FnOk P w K mg base CX0 2 fd_ fdd ["purse", "many"] spDraw) (GO : FnOk P w K mg base CX0 3 fo fdo ["purse", "some"] spOneOf) (GW : FnOk P w K mg base CX0 4 fw fdw pLWords spWords) (B : Blt mg) : FnOk P w K mg base CX0 5 f fd pLPlainSome spPlainSome := by
  refine T.F.ok scLPlainSome (fun vs H Q E h => ?_) (fun cdv A outer s H vs Q E hr h => ?_)
  · obtain ⟨_, _, _, rfl, _⟩ := h
    rfl
  · obtain ⟨a, n, many, rfl, hp, hn, m1, m3, k⟩ := h
    have hr2 : Room 2 _ := hr.mono (by decide)
    have hr3 : Room 3 _ := hr.mono (by decide)
    refine ⟨_, (pss_cons (ps_set (i := 2) scLPlainSome.nd rfl (Or.inl rfl) (pe_call GW hr rfl TW.g TW.F.kp TW.b .nil pass0 (pa_cons (pv 0) (pa_cons (pv 1) pa_nil))))
      (pss_cons (ps_set (i := 3) scLPlainSome.nd rfl (Or.inl rfl) (pe_call GO hr3 rfl TO.g TO.F.kp TO.b .nil pass0 (pa_cons (pv 0) (pa_cons (pe_lst (pa_cons pe_str (pa_cons pe_str (pa_cons pe_str (pa_cons pe_str (pa_cons pe_str (pa_cons pe_str pa_nil))))))) pa_nil))))
      (pss_cons (ps_if (PW.pt (pw_and (pt_cmpR op_eq (pe_call GD hr2 rfl TD.g TD.F.kp TD.b .nil pass0 (pa_cons (pv 0) (pa_cons pe_int pa_nil))) pe_int (nomark _)) (pw_and1 (pt_cmpR op_notIn_seq (pv 3) (pv 2) (by rfl))))) (pss_one (ps_asg (pv 3) (pg_sub (pv 2) (pe_call GD hr2 rfl TD.g TD.F.kp TD.b .nil pass0 (pa_cons (pv 0) (pa_cons (pv 1) pa_nil))) set_list))) pss_nil)
      (pss_one (ps_ret (pv 2)))))), ?_⟩
    refine ⟨_, rfl, _, rfl, a, n, many, rfl, hp, by omega, m1, m3, fun L zs H1 hz nd hl kb1 nL eL hp1 => ?_⟩
    have nLa : L ≠ a := (hp.ne nL).symm
    have l6 : 6 ≤ sizeLine := by rw [sizeLine_eq]; omega
    refine ⟨_, rfl, l6, fun M nM => ?_⟩
    have sM := same_upd (o := .lst [.str "over", .str "under", .str "then", .str "is", .str "cut", .str "behind"]) nM
    have hp2 := hp1.upd (hp1.ne nM) (o := .lst [.str "over", .str "under", .str "then", .str "is", .str "cut", .str "behind"])
    refine ⟨a, M, _, _, rfl, hp2, by omega, (hp1.ne nM).symm, upd_same, by show 1 ≤ 6; omega, by show 6 < 1048576; omega, fun i x H3 hx off3 hp3 => ?_⟩
    obtain ⟨y, rfl, hy⟩ : ∃ y : Str, x = .str y ∧ IsW y := by
      match i, hx with
      | 0, hx => exact ⟨_, (Option.some.inj hx).symm, isWB_ok (by decide +kernel)⟩
      | 1, hx => exact ⟨_, (Option.some.inj hx).symm, isWB_ok (by decide +kernel)⟩
      | 2, hx => exact ⟨_, (Option.some.inj hx).symm, isWB_ok (by decide +kernel)⟩
      | 3, hx => exact ⟨_, (Option.some.inj hx).symm, isWB_ok (by decide +kernel)⟩
      | 4, hx => exact ⟨_, (Option.some.inj hx).symm, isWB_ok (by decide +kernel)⟩
      | 5, hx => exact ⟨_, (Option.some.inj hx).symm, isWB_ok (by decide +kernel)⟩
      | i + 6, hx => exact absurd hx (by simp)
    have kb3 : KeepBut a H1 H3 := (KeepBut.of_same sM).trans (.of_off off3)
    have eL3 := kb3 _ _ eL nLa
    have W0 : Wds zs := ⟨hz, by omega, by omega⟩
    refine ⟨_, rfl, a, _, 4, rfl, hp3, by omega, by omega, by omega, fun d4 H4 c0 c1 off4 hp4 => ⟨rfl, _, rfl, ?_⟩⟩
    have kb4 : KeepBut a H1 H4 := kb3.trans (.of_off off4)
    have eL4 := kb4 _ _ eL nLa
    have stay : Q (.ref L) H4 := k L zs H4 W0 (kb1.trans kb4) nLa eL4 (hp4.mono (by omega))
    refine ite2 (fun c => ?_) (fun c => ?_)
    · refine ⟨_, rfl, _, rfl, L, _, rfl, .inl (SqL.of eL4), rfl, flat_map zs, _, rfl, ?_⟩
      refine ite2 (fun c' => ?_) (fun c' => ⟨_, rfl, stay⟩)
      refine ⟨_, rfl, _, rfl, _, rfl, _, rfl, a, _, many, rfl, hp4, by omega, by omega, by omega, fun d5 H5 g0 g1 off5 hp5 => ?_⟩
      obtain ⟨j, rfl⟩ := Int.eq_ofNat_of_zero_le g0
      have hj : j < zs.length := by omega
      have eL5 : H5 L = some (.lst (zs.map V.str)) := by rw [off5 L nLa]; exact eL4
      have kb5 : KeepBut a H1 H5 := kb4.trans (.of_off off5)
      refine ⟨L, _, _, j, rfl, rfl, eL5, ?_, _, rfl, ?_⟩
      · rw [List.length_map]
        unfold ixN
        rw [if_pos (by omega), if_pos (by omega)]
        rfl
      have es : (zs.map V.str).set j (.str y) = (zs.set j y).map V.str := by rw [List.map_set]
      rw [es]
      have W1 : Wds (zs.set j y) := ⟨fun z hz' => by
        rcases List.mem_or_eq_of_mem_set hz' with q | q
        · exact hz z q
        · rw [q]; exact hy, by rw [List.length_set]; omega, by rw [List.length_set]; omega⟩
      have kbL : KeepBut a H (upd H5 L (.lst ((zs.set j y).map V.str))) := (kb1.trans kb5).upd_new nL
      exact k L _ _ W1 kbL nLa upd_same ((hp5.upd nLa.symm).mono (by omega))
    · exact iteF ⟨_, rfl, stay⟩
end
end S4

namespace S4
open PySem PySem.Spec PyProof.Rows L2 LamX KT
open PySem.W (Frag)
/-! ### rows as lists of data -/
theorem tys_of {H : Hp} : ∀ {ts : List Ty} {us : List V}, DsAt H us (ts.map Ty.d) → (∀ t ∈ ts, t.wok) → Tys H us ts
  | [], us, h, _ => by cases h; exact .nil
  | t :: ts, us, h, w => by
    cases h with
    | cons a h => exact .cons (a.ty (t.ty_d (w t List.mem_cons_self))) (tys_of h fun u hu => w u (List.mem_cons_of_mem _ hu))
theorem Tys.ds {H : Hp} {us : List V} {ts : List Ty} (h : Tys H us ts) : DsAt H us (ts.map Ty.d) := by
  induction h with
  | nil => exact .nil
  | cons a _ ih => exact .cons a.d ih
theorem Tys.woks {H : Hp} {us : List V} {ts : List Ty} (h : Tys H us ts) : ∀ t ∈ ts, t.wok := by
  induction h with
  | nil => intro t ht; cases ht
  | cons a _ ih =>
    intro t ht
    rcases List.mem_cons.mp ht with rfl | ht
    · exact a.wok
    · exact ih t ht
theorem DsAt.take {H : Hp} : ∀ {ds : List D} {vs : List V} (n : Nat), DsAt H vs ds → DsAt H (vs.take n) (ds.take n)
  | _, _, 0, _ => by rw [List.take_zero, List.take_zero]; exact .nil
  | _, _, n + 1, .nil => by rw [List.take_nil, List.take_nil]; exact .nil
  | _, _, n + 1, .cons a h => by rw [List.take_succ_cons, List.take_succ_cons]; exact .cons a (h.take n)
theorem ydl_take {K : Frag} {t ti : TE} {σ : L2.St} {H0 : Hp} {ds : List D} {n : Nat} (h : YdL t σ H0 ds) (hi : Yi ti σ H0 (n : Int)) : YdL (tSl (rSlL K) t tNoPart (tPart ti)) σ H0 (ds.take n) := fun H s Q q =>
  h H s _ fun L vs H1 s1 e1 d1 => hi H1 (s.trans s1) _ ⟨_, rfl, L, vs, rfl, SqL.of e1, fun p np => by
    rw [cutV_take]
    exact q p _ _ (s1.trans (same_upd np)) upd_same ((d1.take n).mono (TK.upd_new np))⟩
theorem ydl_drop {K : Frag} {t ti : TE} {σ : L2.St} {H0 : Hp} {ds : List D} {n : Nat} (h : YdL t σ H0 ds) (hi : Yi ti σ H0 (n : Int)) : YdL (tSl (rSlL K) t (tPart ti) tNoPart) σ H0 (ds.drop n) := fun H s Q q =>
  h H s _ fun L vs H1 s1 e1 d1 => hi H1 (s.trans s1) _ ⟨_, rfl, L, vs, rfl, SqL.of e1, fun p np => by
    have e : cutV vs (some (n : Int)) none = vs.drop n := cutV_from (b := n)
    rw [e]
    exact q p _ _ (s1.trans (same_upd np)) upd_same ((d1.drop n).mono (TK.upd_new np))⟩
theorem ydl_init {K : Frag} {t ti : TE} {σ : L2.St} {H0 : Hp} {ds : List D} (h : YdL t σ H0 ds) (hi : Yi ti σ H0 (-1)) : YdL (tSl (rSlL K) t tNoPart (tPart ti)) σ H0 ds.dropLast := fun H s Q q =>
  h H s _ fun L vs H1 s1 e1 d1 => hi H1 (s.trans s1) _ ⟨_, rfl, L, vs, rfl, SqL.of e1, fun p np => by
    rw [cutV_last]
    have dl : DsAt H1 vs.dropLast ds.dropLast := by
      rw [List.dropLast_eq_take, List.dropLast_eq_take, d1.length]
      exact d1.take _
    exact q p _ _ (s1.trans (same_upd np)) upd_same (dl.mono (TK.upd_new np))⟩
theorem yd_last {K : Frag} {t ti : TE} {σ : L2.St} {H0 : Hp} {ds : List D} {d : D} (h : YdL t σ H0 ds) (hi : Yi ti σ H0 (-1)) (e : ds[ds.length - 1]? = some d) : Yd (tOp (rIxL K) t ti) σ H0 d := fun H s Q q =>
  h H s _ fun L vs H1 s1 e1 d1 => hi H1 (s.trans s1) _ (by
    obtain ⟨hi', _⟩ := List.getElem?_eq_some_iff.mp e
    have hl := d1.length
    obtain ⟨x, ee⟩ : ∃ x, vs[ds.length - 1]? = some x := ⟨vs[ds.length - 1], List.getElem?_eq_getElem (by omega)⟩
    obtain ⟨d', e', hd⟩ := d1.at_ ee
    obtain rfl := Option.some.inj (e'.symm.trans e)
    refine ⟨L, vs, -1, x, rfl, rfl, SqL.of e1, ?_, q x H1 s1 hd⟩
    have ix : ixN vs.length (-1) = some (ds.length - 1) := by
      unfold ixN
      rw [if_neg (by omega), if_pos (by omega), hl]
      congr 1
      omega
    unfold atI
    rw [ix]
    exact ee)
theorem yi_neg {σ : L2.St} {H0 : Hp} {i : Int} {t : TE} (h : Yi t σ H0 i) : True := trivial
/-- [row, goal] -/
theorem yl_res {t u : TE} {σ : L2.St} {H0 H : Hp} {Q : VK} {ts : List Ty} {g : Ty} (h : YdL t σ H0 (ts.map Ty.d)) (h' : Yd u σ H0 g.d) (w : ∀ t ∈ ts, t.wok) (wg : g.wok) (s : Same H0 H) (q : ∀ v H', Same H H' → LRes H' v (some (ts, g)) → Q v H') : tLst (tCons t (tCons u tNil)) σ H Q :=
  h H s _ fun L us H1 s1 e1 d1 => h' H1 (s.trans s1) _ fun x H2 s2 d2 => ⟨by show 2 ≤ sizeLine; rw [sizeLine_eq]; omega, fun p np => by
    have sp := same_upd (o := .lst [.ref L, x]) np
    exact q _ _ ((s1.trans s2).trans sp) ⟨p, L, us, x, rfl, upd_same, (s2.trans sp) _ _ e1, (tys_of (d1.mono (TK.of_same (s2.trans sp))) w), (d2.mono (TK.of_same sp)).ty (g.ty_d wg)⟩⟩
/-- what tells something has a row that is not empty -/
theorem tl_ne : ∀ (n : Nat) (u : D) (r : Told), u.size ≤ n → u.tl = some r → r.1 ≠ []
  | 0, u, _, h, _ => by have := u.size_pos; omega
  | n + 1, u, r, h, e => by
    cases tl_inv e with
    | is _ => simp
    | @om x rx _ h1 h2 => exact (wt_madeO h2).2
    | @um x rx _ h1 h2 => exact (wt_madeU h2).2
    | @tm x y rx ry h1 h2 =>
      have := tl_ne n x rx (by simp only [D.size, sizeAll] at h; omega) h1
      intro z
      exact this (List.append_eq_nil_iff.mp z).1
    | @tu p y ry _ h1 h2 => exact (wt_thenU h2).2
    | @us nm p x y rx ry _ h0 h1 h2 h3 =>
      have := tl_ne n x rx (by simp only [D.size, sizeAll] at h; omega) h1
      exact (wt_usedAt h3).2 this
section
variable {P : Program} {w : World} {K : Frag} {mg : Str → Option Value} {base : Heap}
def spLKd (n : Nat) : Sp := fun vs H Q _ => ∃ v t, vs = [v] ∧ TyAt H v t ∧ t.d.dep ≤ n ∧ ∀ H', Same H H' → Q (.bl true) H'
theorem lkd_step {f : Addr} {fd : FuncData} (T : Top K mg "_law_is_kind" sLIsKind pLIsKind f fd) (B : Blt mg) {n m : Nat} {sp' : Sp} (GP : FnOk P w K mg base CX0 m f fd pLIsKind sp')
    (hsp : ∀ v t H Q, TyAt H v t → t.d.dep + 1 ≤ n → (∀ H', Same H H' → Q (.bl true) H') → sp' [v] H Q L2.E0) : FnOk P w K mg base CX0 (m + 1) f fd pLIsKind (spLKd n) := by
  refine T.F.ok scLIsKind (fun vs H Q E h => ?_) (fun cdv A outer s H vs Q E hr h => ?_)
  · obtain ⟨_, _, rfl, _⟩ := h
    rfl
  · obtain ⟨v, t, rfl, ht, hn, k⟩ := h
    refine ⟨_, (pss_cons (ps_if (pt_val (pe_callB call_isi (by rfl) B.isi (by decide +kernel) (pa_cons (pv 0) (pa_cons (pe_bltn (v := .ty "str") (by rfl) B.str_ (by decide +kernel) rfl) pa_nil)))) (pss_one (ps_ret (pe_and (pe_chain op_lt op_lt pe_int (pe_callB call_len_str (by rfl) B.len PySem.boot_len (pa_cons (pv 0) pa_nil)) pe_int) (pe_one (pe_callB (cr_all rfl) (by rfl) B.all (by decide +kernel) (pa_cons (pe_lc (own := [("sign", 1)]) (g := gName 1) (tt := tYes) rfl scLIsKind.nd (pi_str (pv 0)) (blkOk_by (N := nLIsKind) (sc := defScope sLIsKind) (by decide +kernel)) (fun _ _ _ _ _ => pg_name (i := 1) scLIsKind.nd rfl (Or.inl rfl)) (fun _ _ _ _ _ => pts_nil) (fun _ _ _ _ _ => (pe_cmpR op_in_sign (pv 1) pe_str (by rfl)))) pa_nil)))))) pss_nil)
      (pss_cons (ps_if (PW.pt (pw_or (pt_not (pt_val (pe_callB call_isi (by rfl) B.isi (by decide +kernel) (pa_cons (pv 0) (pa_cons (pe_bltn (v := .ty "tuple") (by rfl) B.tuple (by decide +kernel) rfl) pa_nil))))) (pw_or (pt_cmpR op_ne (pe_callB call_len_seq (by rfl) B.len PySem.boot_len (pa_cons (pv 0) pa_nil)) pe_int (nomark _)) (pw_or1 (pt_cmpR op_notIn_seq (pe_ix ix_tup (pv 0) pe_int (fun _ _ => rfl)) (pe_tup (pa_cons pe_str (pa_cons pe_str (pa_cons pe_str pa_nil)))) (by rfl)))))) pss_never pss_nil)
      (pss_one (ps_ret (pe_and (pe_call GP hr rfl T.g T.F.kp T.b .nil pass0 (pa_cons (pe_ix ix_tup (pv 0) pe_int (fun _ _ => rfl)) pa_nil)) (pe_one (pe_call GP hr rfl T.g T.F.kp T.b .nil pass0 (pa_cons (pe_ix ix_tup (pv 0) pe_int (fun _ _ => rfl)) pa_nil)))))))), ?_⟩
    cases ht with
    | @w z hz =>
      obtain ⟨h1, h2, h3⟩ := hz
      refine ⟨_, rfl, _, _, _, _, true, rfl, .ty "str", .base (.str z), kit_ty (by decide +kernel), _, rfl, iteT ?_⟩
      refine ⟨_, rfl, _, rfl, by rw [sizeLine_eq]; omega, _, _, rfl, rfl, _, rfl, ?_⟩
      rw [decide_eq_true (show (0 : Int) < (z.length : Int) by omega)]
      refine iteT ⟨_, _, rfl, rfl, _, rfl, ?_⟩
      rw [decide_eq_true (show (z.length : Int) < 9 by omega)]
      refine iteT ⟨_, rfl, _, rfl, fun W hW => ?_⟩
      refine lc_it walk_str (fun i H' => H' = upd H W (.lst ((z.cps.toList.take i).map fun c => V.bl (decide (c ∈ abc.cps.toList))))) (by rw [List.take_zero]; rfl) (fun _ _ _ _ => trivial) ?_ ?_
      · rintro i x H' H2 hi rfl ⟨rfl, c, hc, rfl⟩
        have hc' : z.cps.toList[i]? = some c := by rw [Array.getElem?_toList]; exact hc
        refine ⟨rfl, _, rfl, c, abc, rfl, rfl, _, upd_same, ?_, ?_⟩
        · rw [List.length_map, List.length_take, sizeLine_eq]
          have : z.cps.size ≤ 8 := h2
          omega
        · rw [upd_upd, List.take_add_one, hc', List.map_append]
          rfl
      · rintro H' rfl
        have lz : z.cps.size = z.cps.toList.length := by simp
        refine ⟨_, z.cps.toList.map fun c => decide (c ∈ abc.cps.toList), rfl, SqL.of (by rw [upd_same, lz, List.take_length, List.map_map]; rfl), ?_⟩
        have e : (z.cps.toList.map fun c => decide (c ∈ abc.cps.toList)).all id = true := by
          rw [List.all_map, List.all_eq_true]
          intro c hc
          obtain ⟨q1, q2⟩ := h3 c hc
          exact decide_eq_true (abc_mem q1 q2)
        rw [e]
        exact k _ (same_upd hW)
    | @n p g x y a b e h1 h2 =>
      refine ⟨_, rfl, _, _, _, _, false, rfl, .ty "str", .base (.tup e), kit_ty (by decide +kernel), _, rfl, iteF ?_⟩
      refine ⟨_, rfl, _, _, _, _, true, rfl, .ty "tuple", .base (.tup e), kit_ty (by decide +kernel), _, rfl, iteF ⟨_, rfl, p, _, rfl, .inr (SqT.of e), rfl, _, rfl, iteF ?_⟩⟩
      refine ⟨_, rfl, p, _, _, _, rfl, rfl, SqT.of e, atI_nat (j := 0) rfl, by show 3 ≤ sizeLine; rw [sizeLine_eq]; omega, fun q nq => ⟨q, _, rfl, .inr (SqT.of upd_same), rfl, rfl, ?_⟩⟩
      have s1 := same_upd (o := .tup [.str "over", .str "then", .str "under"]) nq
      have ei : inV (.str g.str) [V.str "over", .str "then", .str "under"] = true := by cases g <;> decide +kernel
      rw [ei]
      have dd : a.d.dep + 1 ≤ n ∧ b.d.dep + 1 ≤ n := by
        rw [dep_n] at hn
        omega
      refine ⟨_, rfl, iteF ?_⟩
      refine ⟨_, rfl, p, _, _, _, rfl, rfl, SqT.of (s1 _ _ e), atI_nat (j := 1) rfl, hsp x a _ _ (h1.mono (TK.of_same s1)) dd.1 fun H2 s2 => ⟨_, rfl, ?_⟩⟩
      exact iteT ⟨_, rfl, p, _, _, _, rfl, rfl, SqT.of (s2 _ _ (s1 _ _ e)), atI_nat (j := 2) rfl, hsp y b _ _ (h2.mono (TK.of_same (s1.trans s2))) dd.2 fun H3 s3 => k _ ((s1.trans s2).trans s3)⟩
theorem ok_lkd {f : Addr} {fd : FuncData} (T : Top K mg "_law_is_kind" sLIsKind pLIsKind f fd) (B : Blt mg) : ∀ n : Nat, FnOk P w K mg base CX0 (1 + n) f fd pLIsKind (spLKd n)
  | 0 => lkd_step T B fn_vac fun _ _ _ _ _ h _ => absurd h (by omega)
  | n + 1 => lkd_step (m := 1 + n) T B (ok_lkd T B n) fun v t H Q h1 h2 h3 => ⟨v, t, rfl, h1, by omega, h3⟩
end
end S4

namespace S4
open PySem PySem.Spec PyProof.Rows L2 LamX KT
open PySem.W (Frag)
/-- a list of what is told -/
def LRs (H : Hp) : List V → List Told → Prop
  | [], [] => True
  | v :: vs, r :: rs => LRes H v (some r) ∧ LRs H vs rs
  | _, _ => False
theorem LRs.same {H H' : Hp} (s : Same H H') : ∀ {vs : List V} {rs : List Told}, LRs H vs rs → LRs H' vs rs
  | [], [], h => h
  | _ :: _, _ :: _, h => ⟨h.1.same s, h.2.same s⟩
  | [], _ :: _, h => h.elim
  | _ :: _, [], h => h.elim
theorem LRs.app {H : Hp} {v : V} {r : Told} : ∀ {vs : List V} {rs : List Told}, LRs H vs rs → LRes H v (some r) → LRs H (vs ++ [v]) (rs ++ [r])
  | [], [], _, h => ⟨h, trivial⟩
  | _ :: _, _ :: _, h, h' => ⟨h.1, h.2.app h'⟩
  | [], _ :: _, h, _ => h.elim
  | _ :: _, [], h, _ => h.elim
theorem LRs.length {H : Hp} : ∀ {vs : List V} {rs : List Told}, LRs H vs rs → vs.length = rs.length
  | [], [], _ => rfl
  | _ :: _, _ :: _, h => by rw [List.length_cons, List.length_cons, h.2.length]
  | [], _ :: _, h => h.elim
  | _ :: _, [], h => h.elim
def toldPy (r : Told) : PyData := .list [.list (r.1.map fun t => t.d.py), r.2.d.py]
theorem lrs_dp {K : Frag} {H : Hp} : ∀ {vs : List V} {rs : List Told}, LRs H vs rs → (∀ r ∈ rs, (∀ t ∈ r.1, t.d.dep ≤ 50) ∧ r.2.d.dep ≤ 50) → DpAll K H vs (rs.map toldPy) ∧ PyData.canLayAll0 (rs.map toldPy) = true ∧ PyData.depthAll (rs.map toldPy) ≤ 62
  | [], [], _, _ => ⟨.nil, by simp only [List.map_nil, PyData.canLayAll0], by simp only [List.map_nil, PyData.depthAll]; omega⟩
  | v :: vs, r :: rs, h, q => by
    obtain ⟨b1, b2, b3⟩ := lrs_dp (K := K) h.2 fun r hr => q r (List.mem_cons_of_mem _ hr)
    obtain ⟨p, L, us, g, rfl, ep, eL, hT, hg⟩ := h.1
    obtain ⟨a1, a2⟩ := tys_dp (K := K) hT
    obtain ⟨c1, c2, _⟩ := DAt.py (K := K) hg.d
    obtain ⟨q1, q2⟩ := q r List.mem_cons_self
    have dd := depAll_py (r.1.map fun t => t.d.py) 50 fun x hx => by
      obtain ⟨t, ht, rfl⟩ := List.mem_map.mp hx
      rw [dep_py]
      exact q1 t ht
    have d2 : r.2.d.py.depth ≤ 50 := by rw [dep_py]; exact q2
    refine ⟨.cons (.lst (SqL.of ep) (.cons (.lst (SqL.of eL) a1) (.cons c1 .nil))) b1, ?_, ?_⟩
    · simp only [List.map_cons, PyData.canLayAll0, toldPy, PyData.canLay0, canAll_py _ a2, c2, b2, Bool.and_self]
    · simp only [List.map_cons, PyData.depthAll, toldPy, PyData.depth]
      omega
  | [], _ :: _, h, _ => h.elim
  | _ :: _, [], h, _ => h.elim
theorem lrs_all {K : Frag} {H : Hp} {L : Addr} {vs : List V} {rs : List Told} (e : H L = some (.lst vs)) (h : LRs H vs rs) (q : ∀ r ∈ rs, (∀ t ∈ r.1, t.d.dep ≤ 50) ∧ r.2.d.dep ≤ 50) : Dp K H (.ref L) (.list (rs.map toldPy)) ∧ SeqAt.shaped (.list (rs.map toldPy)) = true := by
  obtain ⟨a1, a2, a3⟩ := lrs_dp (K := K) h q
  refine ⟨.lst (SqL.of e) a1, ?_⟩
  unfold SeqAt.shaped
  have c : (PyData.list (rs.map toldPy)).canLay0 = true := by simp only [PyData.canLay0, a2]
  have d : (PyData.list (rs.map toldPy)).depth ≤ 64 := by simp only [PyData.depth]; omega
  rw [c, Bool.true_and]
  exact decide_eq_true d
theorem eqv_lrs (rs : List Told) : PyData.eqv (.list (rs.map toldPy)) (.list (rs.map toldPy)) = true := by
  simp only [PyData.eqv]
  induction rs with
  | nil => simp [PyData.eqvAll]
  | cons r rs ih =>
    simp only [List.map_cons, PyData.eqvAll, ih, Bool.and_true]
    have q := eqv_lres r r
    rw [decide_eq_true rfl] at q
    exact q
theorem LRs.refs {H : Hp} : ∀ {vs : List V} {rs : List Told}, LRs H vs rs → ∀ z ∈ vs, ∃ q l, z = .ref q ∧ H q = some (.lst l)
  | [], [], _, z, hz => by cases hz
  | v :: vs, r :: rs, h, z, hz => by
    rcases List.mem_cons.mp hz with rfl | hz
    · obtain ⟨p, L, us, g, rfl, ep, _⟩ := h.1
      exact ⟨p, _, rfl, ep⟩
    · exact h.2.refs z hz
  | [], _ :: _, h, _, _ => h.elim
  | _ :: _, [], h, _, _ => h.elim
theorem LRes.over {H : Hp} {W : Addr} {zs os : List V} {v : V} {r : Told} (h : LRes H v (some r)) (e : H W = some (.lst zs)) (l : zs.length ≤ 1) (q : ∀ z ∈ zs, ∃ q l, z = .ref q ∧ H q = some (.lst l)) (ne : r.1 ≠ []) : LRes (upd H W (.lst os)) v (some r) := by
  obtain ⟨p, L, us, g, rfl, ep, eL, hT, hg⟩ := h
  have n1 : p ≠ W := by
    rintro rfl
    rw [ep] at e
    obtain rfl := HO.lst.inj (Option.some.inj e)
    simp at l
  have n2 : L ≠ W := by
    rintro rfl
    rw [eL] at e
    obtain rfl := HO.lst.inj (Option.some.inj e)
    have ll := hT.length
    cases hr : r.1 with
    | nil => exact ne hr
    | cons t ts =>
      rw [hr] at hT
      cases hT with
      | @cons z _ _ _ ht _ =>
        obtain ⟨q', l', rfl, e'⟩ := q z List.mem_cons_self
        cases ht with
        | n e2 _ _ => rw [e2] at e'; cases e'
  have tk : TK H (upd H W (.lst os)) := TK.upd_lst e
  exact ⟨p, L, us, g, rfl, by rw [upd_ne n1]; exact ep, by rw [upd_ne n2]; exact eL, hT.mono tk, hg.mono tk⟩
theorem LRs.over {H : Hp} {W : Addr} {zs os : List V} (e : H W = some (.lst zs)) (l : zs.length ≤ 1) (q : ∀ z ∈ zs, ∃ q l, z = .ref q ∧ H q = some (.lst l)) : ∀ {vs : List V} {rs : List Told}, LRs H vs rs → (∀ r ∈ rs, r.1 ≠ []) → LRs (upd H W (.lst os)) vs rs
  | [], [], h, _ => h
  | _ :: _, _ :: _, h, ne => ⟨h.1.over e l q (ne _ List.mem_cons_self), h.2.over e l q fun r hr => ne r (List.mem_cons_of_mem _ hr)⟩
  | [], _ :: _, h, _ => h.elim
  | _ :: _, [], h, _ => h.elim
theorem LRs.at_ {H : Hp} : ∀ {vs : List V} {rs : List Told}, LRs H vs rs → ∀ {i : Nat} {r : Told}, rs[i]? = some r → ∃ v, vs[i]? = some v ∧ LRes H v (some r)
  | [], [], _, i, r, e => by simp at e
  | v :: vs, r0 :: rs, h, 0, r, e => by
    obtain rfl := Option.some.inj (show some r0 = some r from e)
    exact ⟨v, rfl, h.1⟩
  | v :: vs, r0 :: rs, h, i + 1, r, e => h.2.at_ (i := i) (by simpa using e)
  | [], _ :: _, h, _, _, _ => h.elim
  | _ :: _, [], h, _, _, _ => h.elim
/-- the sizes of knots -/
def SZ : List (Key × V) := [(.inr "is", .int 2), (.inr "over made", .int 2), (.inr "under made", .int 2), (.inr "then made", .int 3), (.inr "over used", .int 4), (.inr "under used", .int 4), (.inr "then used", .int 3), (.inr "cut", .int 4)]
def plc (nm : Str) : Bool := inV (.str nm) [.str "over used", .str "under used", .str "then used", .str "cut"]
/-- parts and what they tell -/
def Tld : List D → List Told → Prop
  | [], [] => True
  | p :: ps, r :: rs => p.tl = some r ∧ Tld ps rs
  | _, _ => False
theorem Tld.length : ∀ {ps : List D} {rs : List Told}, Tld ps rs → ps.length = rs.length
  | [], [], _ => rfl
  | _ :: _, _ :: _, h => by rw [List.length_cons, List.length_cons, Tld.length h.2]
  | [], _ :: _, h => h.elim
  | _ :: _, [], h => h.elim
theorem Tld.at_ : ∀ {ps : List D} {rs : List Told}, Tld ps rs → ∀ {i : Nat} {p : D}, ps[i]? = some p → ∃ r, rs[i]? = some r ∧ p.tl = some r
  | [], [], _, i, p, e => by simp at e
  | p0 :: ps, r :: rs, h, 0, p, e => by
    obtain rfl := Option.some.inj (show some p0 = some p from e)
    exact ⟨r, rfl, h.1⟩
  | p0 :: ps, r :: rs, h, i + 1, p, e => Tld.at_ h.2 (i := i) (by simpa using e)
  | [], _ :: _, h, _, _, _ => h.elim
  | _ :: _, [], h, _, _, _ => h.elim
theorem sz0 : valV (mergeK [] SZ) (.inr "is") = some (.int 2) := by decide +kernel
theorem sz1 : valV (mergeK [] SZ) (.inr "over made") = some (.int 2) := by decide +kernel
theorem sz2 : valV (mergeK [] SZ) (.inr "under made") = some (.int 2) := by decide +kernel
theorem sz3 : valV (mergeK [] SZ) (.inr "then made") = some (.int 3) := by decide +kernel
theorem sz4 : valV (mergeK [] SZ) (.inr "over used") = some (.int 4) := by decide +kernel
theorem sz5 : valV (mergeK [] SZ) (.inr "under used") = some (.int 4) := by decide +kernel
theorem sz6 : valV (mergeK [] SZ) (.inr "then used") = some (.int 3) := by decide +kernel
theorem sz7 : valV (mergeK [] SZ) (.inr "cut") = some (.int 4) := by decide +kernel
theorem tlof_gen {d : D} {r : Told} (h : TlOf d r) : ∃ nm rest, d = .t (.s nm :: rest) ∧ TxtOk nm ∧ valV (mergeK [] SZ) (.inr nm) = some (.int ((rest.length + 1 : Nat) : Int)) ∧ 1 ≤ rest.length ∧ rest.length ≤ 3 ∧ ((nm = "is" ∧ ∃ k, rest = [k] ∧ ∃ t, k.ty = some t ∧ r = ([t], t)) ∨ (nm ≠ "is" ∧ ∃ rs, Tld (rest.drop (if plc nm = true then 1 else 0)) rs ∧ 1 ≤ rs.length ∧ rs.length ≤ 2)) := by
  cases h with
  | is h => exact ⟨_, _, rfl, txtIs _ (by simp), sz0, by simp, by simp, .inl ⟨rfl, _, rfl, _, h, rfl⟩⟩
  | @om x rx _ h1 _ => exact ⟨_, _, rfl, txtIs _ (by simp), sz1, by simp, by simp, .inr ⟨by decide, [rx], by rw [if_neg (by decide +kernel)]; exact ⟨h1, trivial⟩, by simp, by simp⟩⟩
  | @um x rx _ h1 _ => exact ⟨_, _, rfl, txtIs _ (by simp), sz2, by simp, by simp, .inr ⟨by decide, [rx], by rw [if_neg (by decide +kernel)]; exact ⟨h1, trivial⟩, by simp, by simp⟩⟩
  | @tm x y rx ry h1 h2 => exact ⟨_, _, rfl, txtIs _ (by simp), sz3, by simp, by simp, .inr ⟨by decide, [rx, ry], by rw [if_neg (by decide +kernel)]; exact ⟨h1, h2, trivial⟩, by simp, by simp⟩⟩
  | @tu p y ry _ h1 _ => exact ⟨_, _, rfl, txtIs _ (by simp), sz6, by simp, by simp, .inr ⟨by decide, [ry], by rw [if_pos (by decide +kernel)]; exact ⟨h1, trivial⟩, by simp, by simp⟩⟩
  | @us nm p x y rx ry _ h0 h1 h2 _ =>
    have hn : nm = "over used" ∨ nm = "under used" ∨ nm = "cut" := by
      simpa [placed, or_assoc] using h0
    rcases hn with rfl | rfl | rfl
    · exact ⟨_, _, rfl, txtIs _ (by simp), sz4, by simp, by simp, .inr ⟨by decide, [rx, ry], by rw [if_pos (by decide +kernel)]; exact ⟨h1, h2, trivial⟩, by simp, by simp⟩⟩
    · exact ⟨_, _, rfl, txtIs _ (by simp), sz5, by simp, by simp, .inr ⟨by decide, [rx, ry], by rw [if_pos (by decide +kernel)]; exact ⟨h1, h2, trivial⟩, by simp, by simp⟩⟩
    · exact ⟨_, _, rfl, txtIs _ (by simp), sz7, by simp, by simp, .inr ⟨by decide, [rx, ry], by rw [if_pos (by decide +kernel)]; exact ⟨h1, h2, trivial⟩, by simp, by simp⟩⟩
section
variable {P : Program} {w : World} {K : Frag} {mg : Str → Option Value} {base : Heap}
def spSameL (n : Nat) : Sp := fun vs H Q _ => ∃ (L : Addr) (us : List V) (ds : List D), vs = [.ref L] ∧ H L = some (.lst us) ∧ DsAt H us ds ∧ ds.length ≤ 1000 ∧ (∀ d ∈ ds, d.dep ≤ n ∧ d.size ≤ 4000) ∧ ∀ (M : Addr) (ws : List V) H', Same H H' → H M = none → H' M = some (.lst ws) → DsAt H' ws ds → Q (.ref M) H'
theorem ok_sameL {f : Addr} {fd : FuncData} (T : Top K mg "_law_same" sLSame pLSame f fd) (B : Blt mg) {n m : Nat} (GP : FnOk P w K mg base CX0 m f fd pLSame (spSame n)) : FnOk P w K mg base CX0 (m + 1) f fd pLSame (spSameL n) := by
  refine T.F.ok scLSame (fun vs H Q E h => ?_) (fun cdv A outer s H vs Q E hr h => ?_)
  · obtain ⟨_, _, _, rfl, _⟩ := h
    rfl
  · obtain ⟨L, us, ds, rfl, eL, hd, hl, hs, k⟩ := h
    refine ⟨_, (pss_cons (ps_if (pt_val (pe_callB call_isi (by rfl) B.isi (by decide +kernel) (pa_cons (pv 0) (pa_cons (pe_bltn (v := .ty "dict") (by rfl) B.dict (by decide +kernel) rfl) pa_nil)))) pss_never pss_nil)
      (pss_cons (ps_if (pt_val (pe_callB call_isi (by rfl) B.isi (by decide +kernel) (pa_cons (pv 0) (pa_cons (pe_bltn (v := .ty "list") (by rfl) B.list (by decide +kernel) rfl) pa_nil)))) (pss_one (ps_ret (pe_lc (own := [("item", 1)]) (g := gName 1) (tt := tYes) rfl scLSame.nd (pi_list (pv 0)) (blkOk_by (N := nLSame) (sc := defScope sLSame) (by decide +kernel)) (fun _ _ _ _ _ => pg_name (i := 1) scLSame.nd rfl (Or.inl rfl)) (fun _ _ _ _ _ => pts_nil) (fun _ _ _ _ _ => (pe_call GP hr rfl T.g T.F.kp T.b .nil pass0 (pa_cons (pv 1) pa_nil)))))) pss_nil)
      (pss_one (ps_ret pe_never)))), ?_⟩
    refine ⟨_, rfl, _, _, _, _, false, rfl, .ty "dict", .base (.lst eL), kit_ty (by decide +kernel), _, rfl, iteF ?_⟩
    refine ⟨_, rfl, _, _, _, _, true, rfl, .ty "list", .base (.lst eL), kit_ty (by decide +kernel), _, rfl, iteT ?_⟩
    refine ⟨_, rfl, L, rfl, ⟨_, SqL.of eL⟩, fun W hW => ?_⟩
    have lx := hd.length
    refine lc_list (K := K) (xs := us) (fun i H' => Same H H' ∧ ∃ ys, H' W = some (.lst ys) ∧ DsAt H' ys (ds.take i)) ⟨same_upd hW, [], upd_same, by rw [List.take_zero]; exact .nil⟩ (fun i H' _ q => SqL.of (q.1 _ _ eL)) ?_ ?_
    · rintro i x H' hx ⟨sI, ys, eW, hys⟩
      obtain ⟨u, hu, hxu⟩ := hd.at_ hx
      obtain ⟨du, zu⟩ := hs u (List.mem_of_getElem? hu)
      have ly := hys.length
      rw [List.length_take] at ly
      refine ⟨rfl, x, rfl, x, u, rfl, hxu.mono (TK.of_same sI), du, zu, fun v' H2 s2 hv' => ⟨ys, s2 _ _ eW, by rw [sizeLine_eq]; omega, same_over (sI.trans s2) hW, ys ++ [v'], upd_same, ?_⟩⟩
      have tkw : TK H2 (upd H2 W (.lst (ys ++ [v']))) := TK.upd_lst (s2 _ _ eW)
      rw [List.take_add_one, hu]
      exact (hys.mono ((TK.of_same s2).trans tkw)).append (.cons (hv'.mono tkw) .nil)
    · rintro H' ⟨sI, ys, eW, hys⟩
      rw [lx, List.take_length] at hys
      exact k W ys H' sI hW eW hys

/-! ### a part used -/
def spUsed : Sp := fun vs H Q _ => ∃ (nm : Str) (R S : Addr) (p : Nat) (g : V) (us ms : List V) (row srow row' : List Ty) (z goal : Ty), vs = [.str nm, .ref R, .int p, .ref S, g] ∧ placed nm = true ∧ H R = some (.lst us) ∧ Tys H us row ∧ H S = some (.lst ms) ∧ Tys H ms srow ∧ TyAt H g z ∧ row.length ≤ 300 ∧ srow.length ≤ 300 ∧ z.d.dep ≤ 60 ∧ (∀ t ∈ row, t.d.dep ≤ 60) ∧
  usedAt nm p (srow, z) (row, goal) = some (row', goal) ∧ ∀ (L : Addr) (ws : List V) H', Same H H' → H' L = some (.lst ws) → Tys H' ws row' → Q (.ref L) H'
theorem ok_used {f : Addr} {fd : FuncData} (T : Top K mg "_law_used" sLUsed pLUsed f fd) : FnOk P w K mg base CX0 1 f fd pLUsed spUsed := by
  refine T.F.ok scLUsed (fun vs H Q E h => ?_) (fun cdv A outer s H vs Q E hr h => ?_)
  · obtain ⟨_, _, _, _, _, _, _, _, _, _, _, _, rfl, _⟩ := h
    rfl
  · obtain ⟨nm, R, S, p, g, us, ms, row, srow, row', z, goal, rfl, hnm, eR, hR, eS, hS, hg, l1, l2, dz, dr, hu, q⟩ := h
    refine ⟨_, (pss_cons (ps_if (pt_cmpR op_eq (pv 0) pe_str (nomark _)) (pss_one (ps_ret (pe_op op_cat (pe_op op_cat (pe_op op_cat (pe_slice sl_list (pv 1) po_none (po_some (pv 2))) (pe_lst (pa_cons (pe_tup (pa_cons pe_str (pa_cons (pe_ix ix_list (pv 1) (pv 2) (fun _ _ => rfl)) (pa_cons (pv 4) pa_nil)))) pa_nil))) (pv 3)) (pe_slice sl_list (pv 1) (po_some (pe_op op_add (pv 2) pe_int)) po_none)))) pss_nil)
      (pss_cons (ps_if (pt_cmpR op_eq (pv 0) pe_str (nomark _)) (pss_one (ps_ret (pe_op op_cat (pe_op op_cat (pe_op op_cat (pe_slice sl_list (pv 1) po_none (po_some (pv 2))) (pv 3)) (pe_lst (pa_cons (pe_tup (pa_cons pe_str (pa_cons (pv 4) (pa_cons (pe_ix ix_list (pv 1) (pv 2) (fun _ _ => rfl)) pa_nil)))) pa_nil))) (pe_slice sl_list (pv 1) (po_some (pe_op op_add (pv 2) pe_int)) po_none)))) pss_nil)
      (pss_one (ps_ret (pe_ifExp (pt_cmpR (op_eqD (hu64 hr)) (pe_ix ix_list (pv 1) (pv 2) (fun _ _ => rfl)) (pv 4) (nomark _)) (pe_op op_cat (pe_op op_cat (pe_slice sl_list (pv 1) po_none (po_some (pv 2))) (pv 3)) (pe_slice sl_list (pv 1) (po_some (pe_op op_add (pv 2) pe_int)) po_none)) pe_non))))), ?_⟩
    unfold usedAt at hu
    rw [if_pos (Int.natCast_nonneg p)] at hu
    simp only [Int.toNat_natCast] at hu
    have yR : YdL (tVar 1) (L2.start nLUsed [.str nm, .ref R, .int p, .ref S, g]) H (row.map Ty.d) := ydl_var (by rfl) eR hR.ds
    have yS : YdL (tVar 3) (L2.start nLUsed [.str nm, .ref R, .int p, .ref S, g]) H (srow.map Ty.d) := ydl_var (by rfl) eS hS.ds
    have yg : Yd (tVar 4) (L2.start nLUsed [.str nm, .ref R, .int p, .ref S, g]) H z.d := yd_var (by rfl) hg.d
    have ip : ∀ H0, Yi (tVar 2) (L2.start nLUsed [.str nm, .ref R, .int p, .ref S, g]) H0 (p : Int) := fun H0 => yi_var (by rfl)
    have wR := Tys.woks hR
    have wS := Tys.woks hS
    have wg := hg.wok
    cases hk : row[p]? with
    | none => rw [hk] at hu; cases hu
    | some k0 =>
      rw [hk] at hu
      obtain ⟨hp, _⟩ := List.getElem?_eq_some_iff.mp hk
      have hkd : (row.map Ty.d)[p]? = some k0.d := by rw [List.getElem?_map, hk]; rfl
      have wk := wR k0 (List.mem_of_getElem? hk)
      have fin : ∀ ts, (∀ t ∈ ts, t.wok) → row' = ts → ∀ (L : Addr) ws H', Same H H' → H' L = some (.lst ws) → DsAt H' ws (ts.map Ty.d) → Q (.ref L) H' := fun ts wts e L ws H' s' e' hd => q L ws H' s' e' (by rw [e]; exact tys_of hd wts)
      have wt : ∀ t ∈ row.take p, t.wok := fun t ht => wR t (List.mem_of_mem_take ht)
      have wd : ∀ t ∈ row.drop (p + 1), t.wok := fun t ht => wR t (List.mem_of_mem_drop ht)
      have lt : (row.take p).length ≤ 300 := by rw [List.length_take]; omega
      have ld : (row.drop (p + 1)).length ≤ 300 := by rw [List.length_drop]; omega
      have yT : YdL (tSl (rSlL K) (tVar 1) tNoPart (tPart (tVar 2))) (L2.start nLUsed [.str nm, .ref R, .int p, .ref S, g]) H ((row.take p).map Ty.d) := by
        rw [List.map_take]
        exact ydl_take yR (ip H)
      have yD : ∀ {ti : TE}, Yi ti (L2.start nLUsed [.str nm, .ref R, .int p, .ref S, g]) H ((p + 1 : Nat) : Int) → YdL (tSl (rSlL K) (tVar 1) (tPart ti) tNoPart) (L2.start nLUsed [.str nm, .ref R, .int p, .ref S, g]) H ((row.drop (p + 1)).map Ty.d) := fun hi => by
        rw [List.map_drop]
        exact ydl_drop yR hi
      have yk : Yd (tOp (rIxL K) (tVar 1) (tVar 2)) (L2.start nLUsed [.str nm, .ref R, .int p, .ref S, g]) H k0.d := yd_ixL yR (ip H) hkd
      have n12 : ¬ ("under used" : Str) = "over used" := by decide
      have n13 : ¬ ("cut" : Str) = "over used" := by decide
      have n23 : ¬ ("cut" : Str) = "under used" := by decide
      have hn : nm = "over used" ∨ nm = "under used" ∨ nm = "cut" := by simpa [placed, or_assoc] using hnm
      have add1 : ∀ (H' : Hp) (Q' : VK), Q' (.int ((p + 1 : Nat) : Int)) H' → Q' (.int ((p : Int) + 1)) H' := fun _ _ h => h
      rcases hn with rfl | rfl | rfl
      · simp only [if_true] at hu
        have e1 : row' = row.take p ++ [.n .ov k0 z] ++ srow ++ row.drop (p + 1) := by injection hu with hu; injection hu with hu _; exact hu.symm
        refine ⟨_, rfl, rfl, true, congrArg V.bl (decide_eq_true rfl), iteT ?_⟩
        refine ydl_cat (es := (row.drop (p + 1)).map Ty.d) (ydl_cat (ydl_cat yT (ydl_lst (yda1 (yt3 (d := k0.d) (e := z.d) tx_over yk yg)) (by simp)) ?_) yS ?_) (yD fun H' s' Q' q' => ⟨_, rfl, _, _, rfl, rfl, q'⟩) ?_ H (Same.refl H) _ fun L ws H' s' e' hd => fin (row.take p ++ [.n .ov k0 z] ++ srow ++ row.drop (p + 1)) ?_ e1 L ws H' s' e' ?_
        · simp only [List.length_map, List.length_cons, List.length_nil]; omega
        · simp only [List.length_map, List.length_cons, List.length_nil, List.length_append]; omega
        · simp only [List.length_map, List.length_cons, List.length_nil, List.length_append]; omega
        · intro t ht
          simp only [List.mem_append, List.mem_singleton] at ht
          rcases ht with ((h | h) | h) | h
          · exact wt t h
          · rw [h]; exact ⟨wk, wg⟩
          · exact wS t h
          · exact wd t h
        · rw [List.map_append, List.map_append, List.map_append]
          exact hd
      · simp only [n12, if_false, if_true] at hu
        have e1 : row' = row.take p ++ srow ++ [.n .un z k0] ++ row.drop (p + 1) := by injection hu with hu; injection hu with hu _; exact hu.symm
        refine ⟨_, rfl, rfl, false, congrArg V.bl (decide_eq_false (by decide)), iteF ⟨_, rfl, rfl, true, congrArg V.bl (decide_eq_true rfl), iteT ?_⟩⟩
        refine ydl_cat (es := (row.drop (p + 1)).map Ty.d) (ydl_cat (ydl_cat yT yS ?_) (ydl_lst (yda1 (yt3 (d := z.d) (e := k0.d) tx_under yg yk)) (by simp)) ?_) (yD fun H' s' Q' q' => ⟨_, rfl, _, _, rfl, rfl, q'⟩) ?_ H (Same.refl H) _ fun L ws H' s' e' hd => fin (row.take p ++ srow ++ [.n .un z k0] ++ row.drop (p + 1)) ?_ e1 L ws H' s' e' ?_
        · simp only [List.length_map, List.length_cons, List.length_nil]; omega
        · simp only [List.length_map, List.length_cons, List.length_nil, List.length_append]; omega
        · simp only [List.length_map, List.length_cons, List.length_nil, List.length_append]; omega
        · intro t ht
          simp only [List.mem_append, List.mem_singleton] at ht
          rcases ht with ((h | h) | h) | h
          · exact wt t h
          · exact wS t h
          · rw [h]; exact ⟨wg, wk⟩
          · exact wd t h
        · rw [List.map_append, List.map_append, List.map_append]
          exact hd
      · simp only [n13, n23, if_false] at hu
        by_cases ek : k0 = z
        · subst ek
          simp only [if_true] at hu
          have e1 : row' = row.take p ++ srow ++ row.drop (p + 1) := by injection hu with hu; injection hu with hu _; exact hu.symm
          refine ⟨_, rfl, rfl, false, congrArg V.bl (decide_eq_false (by decide)), iteF ⟨_, rfl, rfl, false, congrArg V.bl (decide_eq_false (by decide)), iteF ?_⟩⟩
          obtain ⟨xk, hxk⟩ : ∃ x, us[p]? = some x := ⟨us[p]'(by rw [hR.length]; exact hp), List.getElem?_eq_getElem (by rw [hR.length]; exact hp)⟩
          obtain ⟨t', ht', hxt⟩ := hR.at_ hxk
          obtain rfl : t' = k0 := Option.some.inj (ht'.symm.trans hk)
          obtain ⟨A1, A2⟩ := ty_dp (K := K) hxt dz
          obtain ⟨B1, B2⟩ := ty_dp (K := K) hg dz
          refine ⟨_, rfl, _, rfl, R, _, _, _, rfl, rfl, SqL.of eR, atI_nat hxk, _, rfl, _, _, A1, B1, A2, B2, ?_⟩
          rw [eqv_ty, decide_eq_true rfl]
          refine ⟨_, rfl, iteT ?_⟩
          refine ydl_cat (es := (row.drop (p + 1)).map Ty.d) (ydl_cat yT yS ?_) (yD fun H' s' Q' q' => ⟨_, rfl, _, _, rfl, rfl, q'⟩) ?_ H (Same.refl H) _ fun L ws H' s' e' hd => fin (row.take p ++ srow ++ row.drop (p + 1)) ?_ e1 L ws H' s' e' ?_
          · simp only [List.length_map]; omega
          · simp only [List.length_map, List.length_append]; omega
          · intro t ht
            simp only [List.mem_append] at ht
            rcases ht with (h | h) | h
            · exact wt t h
            · exact wS t h
            · exact wd t h
          · rw [List.map_append, List.map_append]
            exact hd
        · rw [if_neg ek] at hu
          cases hu
end
end S4

namespace S4
open PySem PySem.Spec PyProof.Rows L2 LamX KT
open PySem.W (Frag)
section
variable {P : Program} {w : World} {K : Frag} {mg : Str → Option Value} {base : Heap}
def spLTold (n : Nat) : Sp := fun vs H Q _ => ∃ v d r, vs = [v] ∧ DAt H v d ∧ d.tl = some r ∧ d.dep ≤ n ∧ d.size ≤ 290 ∧ d.dep ≤ 50 ∧ ∀ v' H', Same H H' → LRes H' v' (some r) → Q v' H'
theorem plc4 (nm : Str) : inV (.str nm) [V.str "over used", .str "under used", .str "then used", .str "cut"] = plc nm := rfl
theorem tld_ne {ps : List D} {rs : List Told} (h : Tld ps rs) : ∀ r ∈ rs, r.1 ≠ [] := by
  induction ps generalizing rs with
  | nil => cases rs with
    | nil => intro r hr; cases hr
    | cons _ _ => exact h.elim
  | cons p ps ih => cases rs with
    | nil => exact h.elim
    | cons r0 rs =>
      intro r hr
      rcases List.mem_cons.mp hr with rfl | hr
      · exact tl_ne _ p _ (Nat.le_refl _) h.1
      · exact ih h.2 r hr
theorem lastD_at {row : List Ty} (h : 1 ≤ row.length) : row[row.length - 1]? = some (row.getLastD (.w "")) := by
  rw [List.getLastD_eq_getLast?, List.getLast?_eq_getElem?]
  have : row[row.length - 1]? = some (row[row.length - 1]'(by omega)) := List.getElem?_eq_getElem (by omega)
  rw [this]
  rfl
theorem tld1 {x : D} {rs : List Told} {rx : Told} (h : Tld [x] rs) (e : x.tl = some rx) : rs = [rx] := by
  match rs, h with
  | [r], h =>
    obtain rfl := Option.some.inj (h.1.symm.trans e)
    rfl
  | [], h => exact h.elim
  | _ :: _ :: _, h => exact h.2.elim
theorem tld2 {x y : D} {rs : List Told} {rx ry : Told} (h : Tld [x, y] rs) (e : x.tl = some rx) (e' : y.tl = some ry) : rs = [rx, ry] := by
  match rs, h with
  | r :: rs, h =>
    obtain rfl := Option.some.inj (h.1.symm.trans e)
    rw [tld1 h.2 e']
  | [], h => exact h.elim
theorem told_step {f fk fu : Addr} {fd fdk fdu : FuncData} (T : Top K mg "_law_told" sLTold pLTold f fd) (TKd : Top K mg "_law_is_kind" sLIsKind pLIsKind fk fdk) (TU : Top K mg "_law_used" sLUsed pLUsed fu fdu) (B : Blt mg) {n m : Nat} {sp' : Sp}
    (GP : FnOk P w K mg base CX0 m f fd pLTold sp') (hm : 1 ≤ m) (hsp : ∀ v d r H Q, DAt H v d → d.tl = some r → d.dep + 1 ≤ n → d.size ≤ 290 → d.dep ≤ 50 → (∀ v' H', Same H H' → LRes H' v' (some r) → Q v' H') → sp' [v] H Q L2.E0)
    (GK : FnOk P w K mg base CX0 m fk fdk pLIsKind (spLKd n)) (GU : FnOk P w K mg base CX0 1 fu fdu pLUsed spUsed) : FnOk P w K mg base CX0 (m + 1) f fd pLTold (spLTold n) := by
  refine T.F.ok scLTold (fun vs H Q E h => ?_) (fun cdv A outer s H vs Q E hr h => ?_)
  · obtain ⟨_, _, _, rfl, _⟩ := h
    rfl
  · obtain ⟨v, d, r, rfl, hd, et, hn, hz, h50, k⟩ := h
    have hr1 : Room 1 _ := hr.mono hm
    refine ⟨_, (pss_cons (ps_set (i := 1) scLTold.nd rfl (Or.inl rfl) (pe_disp (pps_cons pe_str pe_int (pps_cons pe_str pe_int (pps_cons pe_str pe_int (pps_cons pe_str pe_int (pps_cons pe_str pe_int (pps_cons pe_str pe_int (pps_cons pe_str pe_int (pps_cons pe_str pe_int pps_nil)))))))) (by rfl) (by rfl) (by simp) (by decide)))
      (pss_cons (ps_if (PW.pt (pw_or (pt_not (pt_val (pe_callB call_isi (by rfl) B.isi (by decide +kernel) (pa_cons (pv 0) (pa_cons (pe_bltn (v := .ty "tuple") (by rfl) B.tuple (by decide +kernel) rfl) pa_nil))))) (pw_or (pt_cmpR (op_eqD (hu64 hr)) (pv 0) (pe_tup pa_nil) (nomark _)) (pw_or (pt_not (pt_val (pe_callB call_isi (by rfl) B.isi (by decide +kernel) (pa_cons (pe_ix ix_tup (pv 0) pe_int (fun _ _ => rfl)) (pa_cons (pe_bltn (v := .ty "str") (by rfl) B.str_ (by decide +kernel) rfl) pa_nil))))) (pw_or1 (pt_cmpR op_ne (pe_dget2 (Nat.lt_of_le_of_lt (Nat.add_le_add_left (by decide : 1 ≤ 64) _) (hu64 hr)) (pv 1) (pe_ix ix_tup (pv 0) pe_int (fun _ _ => rfl)) pe_int ⟨by rfl, by rfl, by rfl, by rfl⟩) (pe_callB call_len_seq (by rfl) B.len PySem.boot_len (pa_cons (pv 0) pa_nil)) (nomark _))))))) pss_never pss_nil)
      (pss_cons (ps_set (i := 2) scLTold.nd rfl (Or.inl rfl) (pe_ix ix_tup (pv 0) pe_int (fun _ _ => rfl)))
      (pss_cons (ps_if (pt_cmpR op_eq (pv 2) pe_str (nomark _)) (pss_one (ps_ret (pe_ifExp (pt_val (pe_call GK hr rfl TKd.g TKd.F.kp TKd.b .nil pass0 (pa_cons (pe_ix ix_tup (pv 0) pe_int (fun _ _ => rfl)) pa_nil))) (pe_lst (pa_cons (pe_lst (pa_cons (pe_ix ix_tup (pv 0) pe_int (fun _ _ => rfl)) pa_nil)) (pa_cons (pe_ix ix_tup (pv 0) pe_int (fun _ _ => rfl)) pa_nil))) pe_non))) pss_nil)
      (pss_cons (ps_setLc (i := 3) (own := [("part", 8)]) (g := (gName 8)) (tt := tYes) rfl scLTold.nd rfl rfl (by rfl) (pi_tup (pe_slice sl_tup (pv 0) (po_some (pe_op op_add pe_int (pe_callTy call_int1 (by rfl) B.int (by decide +kernel) (pa_cons (pe_cmpR op_in_seq (pv 2) (pe_tup (pa_cons pe_str (pa_cons pe_str (pa_cons pe_str (pa_cons pe_str pa_nil))))) (by rfl)) pa_nil)))) po_none)) (blkOk_by (N := nLTold) (sc := defScope sLTold) (by decide +kernel)) (fun _ _ _ _ _ => pg_name (i := 8) scLTold.nd rfl (Or.inl rfl)) (fun _ _ _ _ _ => pts_nil) (fun _ _ _ _ _ => (pe_call GP hr rfl T.g T.F.kp T.b .nil pass0 (pa_cons (pv 8) pa_nil))))
      (pss_cons (ps_if (pt_cmpR (op_inD (hu65 hr)) pe_non (pv 3) (by rfl)) pss_never pss_nil)
      (pss_cons (ps_asg (pe_ix ix_list (pv 3) (pe_un un_neg pe_int) (fun _ _ => rfl)) (pg_lst (by rfl) (pgs_cons (pg_name (i := 4) scLTold.nd rfl (Or.inl rfl)) (pgs_cons (pg_name (i := 5) scLTold.nd rfl (Or.inl rfl)) pgs_nil))))
      (pss_cons (ps_if (pt_cmpR op_eq (pv 2) pe_str (nomark _)) (pss_one (ps_ret (pe_lst (pa_cons (pe_op op_cat (pe_ix ix_list (pe_ix ix_list (pv 3) pe_int (fun _ _ => rfl)) pe_int (fun _ _ => rfl)) (pv 4)) (pa_cons (pe_tup (pa_cons pe_str (pa_cons (pe_ix ix_list (pe_ix ix_list (pv 3) pe_int (fun _ _ => rfl)) pe_int (fun _ _ => rfl)) (pa_cons (pv 5) pa_nil)))) pa_nil))))) pss_nil)
      (pss_cons (ps_if (pt_cmpR op_in_seq (pv 2) (pe_tup (pa_cons pe_str (pa_cons pe_str pa_nil))) (by rfl)) (pss_cons (ps_if (pt_cmpR op_lt (pe_callB call_len_seq (by rfl) B.len PySem.boot_len (pa_cons (pv 4) pa_nil)) pe_int (nomark _)) pss_never pss_nil)
      (pss_one (ps_ret (pe_ifExp (pt_cmpR op_eq (pv 2) pe_str (nomark _)) (pe_lst (pa_cons (pe_slice sl_list (pv 4) po_none (po_some (pe_un un_neg pe_int))) (pa_cons (pe_tup (pa_cons pe_str (pa_cons (pv 5) (pa_cons (pe_ix ix_list (pv 4) (pe_un un_neg pe_int) (fun _ _ => rfl)) pa_nil)))) pa_nil))) (pe_lst (pa_cons (pe_slice sl_list (pv 4) (po_some pe_int) po_none) (pa_cons (pe_tup (pa_cons pe_str (pa_cons (pe_ix ix_list (pv 4) pe_int (fun _ _ => rfl)) (pa_cons (pv 5) pa_nil)))) pa_nil))))))) pss_nil)
      (pss_cons (ps_set (i := 6) scLTold.nd rfl (Or.inl rfl) (pe_ix ix_tup (pv 0) pe_int (fun _ _ => rfl)))
      (pss_cons (ps_if (PW.pt (pw_or (pt_not (pt_val (pe_callB call_isi (by rfl) B.isi (by decide +kernel) (pa_cons (pv 6) (pa_cons (pe_bltn (v := .ty "int") (by rfl) B.int (by decide +kernel) rfl) pa_nil))))) (pw_or (pt_val (pe_callB call_isi (by rfl) B.isi (by decide +kernel) (pa_cons (pv 6) (pa_cons (pe_bltn (v := .ty "bool") (by rfl) B.bool_ (by decide +kernel) rfl) pa_nil)))) (pw_or (pt_cmpR op_lt (pv 6) pe_int (nomark _)) (pw_or1 (pt_cmpR op_ge (pe_op op_add (pv 6) (pe_callTy call_int1 (by rfl) B.int (by decide +kernel) (pa_cons (pe_cmpR op_eq (pv 2) pe_str (nomark _)) pa_nil))) (pe_callB call_len_seq (by rfl) B.len PySem.boot_len (pa_cons (pv 4) pa_nil)) (nomark _))))))) pss_never pss_nil)
      (pss_cons (ps_if (pt_cmpR op_eq (pv 2) pe_str (nomark _)) (pss_one (ps_ret (pe_lst (pa_cons (pe_op op_cat (pe_op op_cat (pe_slice sl_list (pv 4) po_none (po_some (pv 6))) (pe_lst (pa_cons (pe_tup (pa_cons pe_str (pa_cons (pe_ix ix_list (pv 4) (pv 6) (fun _ _ => rfl)) (pa_cons (pe_ix ix_list (pv 4) (pe_op op_add (pv 6) pe_int) (fun _ _ => rfl)) pa_nil)))) pa_nil))) (pe_slice sl_list (pv 4) (po_some (pe_op op_add (pv 6) pe_int)) po_none)) (pa_cons (pv 5) pa_nil))))) pss_nil)
      (pss_cons (ps_set (i := 7) scLTold.nd rfl (Or.inl rfl) (pe_call GU hr1 rfl TU.g TU.F.kp TU.b .nil pass0 (pa_cons (pv 2) (pa_cons (pv 4) (pa_cons (pv 6) (pa_cons (pe_ix ix_list (pe_ix ix_list (pv 3) pe_int (fun _ _ => rfl)) pe_int (fun _ _ => rfl)) (pa_cons (pe_ix ix_list (pe_ix ix_list (pv 3) pe_int (fun _ _ => rfl)) pe_int (fun _ _ => rfl)) pa_nil)))))))
      (pss_one (ps_ret (pe_ifExp (pt_cmpR op_isN (pv 7) pe_non (nomark _)) pe_non (pe_lst (pa_cons (pv 7) (pa_cons (pv 5) pa_nil))))))))))))))))))), ?_⟩
    have tof := tl_inv et
    obtain ⟨nm, rest, rfl, oknm, hsz, lr1, lr3, hgen⟩ := tlof_gen tof
    have bd := tl_bd _ _ _ (Nat.le_refl _) et
    -- the sizes
    refine fun Z nZ => ⟨upd_same, SZ, rfl, by decide, ?_⟩
    have sZ := same_upd (o := .dK []) nZ
    have eZ : upd (upd H Z (.dK [])) Z (.dK (mergeK [] SZ)) Z = some (.dK (mergeK [] SZ)) := upd_same
    have sZ' : Same H (upd (upd H Z (.dK [])) Z (.dK (mergeK [] SZ))) := same_over sZ nZ
    generalize upd (upd H Z (.dK [])) Z (.dK (mergeK [] SZ)) = H1 at eZ sZ' ⊢
    have hd1 := hd.mono (TK.of_same sZ')
    clear hd sZ
    cases hd1 with
    | @t p xs _ ep hxs =>
      have hdd : DAt H1 (.ref p) (.t (.s nm :: rest)) := .t ep hxs
      have lx := hxs.length
      have lx : xs.length = rest.length + 1 := lx
      obtain ⟨x0, xr, rfl, h0, hxr⟩ : ∃ x0 xr, xs = x0 :: xr ∧ x0 = .str nm ∧ DsAt H1 xr rest := by
        cases hxs with
        | cons a b => cases a; exact ⟨_, _, rfl, rfl, b⟩
      subst h0
      have lxr := hxr.length
      refine ⟨_, rfl, _, _, _, _, true, rfl, .ty "tuple", .base (.tup ep), kit_ty (by decide +kernel), _, rfl, iteF ?_⟩
      refine ⟨_, rfl, by show 0 ≤ sizeLine; exact Nat.zero_le _, fun q0 nq0 => ?_⟩
      have s0 := same_upd (o := .tup []) nq0
      have hdd' := hdd.mono (TK.of_same s0)
      refine ⟨(D.t (.s nm :: rest)).py, .tuple [], (DAt.py (K := K) hdd').1, .tup (SqT.of upd_same) .nil, DAt.shaped (K := K) hdd' (by omega), by decide +kernel, ?_⟩
      have eb : PyData.eqv (D.t (.s nm :: rest)).py (.tuple []) = false := by simp [D.py, pyAll, PyData.eqv, PyData.eqvAll]
      rw [eb]
      have eZ := s0 _ _ eZ
      have ep := s0 _ _ ep
      have hxr := hxr.mono (TK.of_same s0)
      have sH := sZ'.trans s0
      generalize upd H1 q0 (.tup []) = H2 at *
      refine ⟨_, rfl, iteF ?_⟩
      refine ⟨_, rfl, p, _, _, _, rfl, rfl, SqT.of ep, atI_nat (j := 0) rfl, _, _, _, _, true, rfl, .ty "str", .base (.str nm), kit_ty (by decide +kernel), _, rfl, iteF ?_⟩
      refine ⟨_, rfl, Z, rfl, .inl ⟨_, .of eZ⟩, _, rfl, p, _, _, _, rfl, rfl, SqT.of ep, atI_nat (j := 0) rfl, _, .inl ⟨_, .inr nm, .of eZ, rfl, rfl⟩, ?_⟩
      rw [hsz]
      refine ⟨_, rfl, p, _, rfl, .inr (SqT.of ep), rfl, _, congrArg (fun b => V.bl (!b)) (decide_eq_true (show V.int ((rest.length + 1 : Nat) : Int) = V.int ((V.str nm :: xr).length : Nat) by rw [List.length_cons, lxr])), iteF ?_⟩
      refine ⟨_, rfl, p, _, _, _, rfl, rfl, SqT.of ep, atI_nat (j := 0) rfl, ?_⟩
      have hdd2 : DAt H2 (.ref p) (.t (.s nm :: rest)) := hdd'
      refine ⟨_, rfl, rfl, _, rfl, ?_⟩
      rw [strEq]
      rcases hgen with ⟨rfl, kd, rfl, t, ht, rfl⟩ | ⟨his, rs, htl, lrs1, lrs2⟩
      · rw [decide_eq_true rfl]
        obtain ⟨xk, rfl, hxk⟩ := dsAt1 hxr
        have ekd := D.ty_d ht
        have hk := hxk.ty ht
        subst ekd
        have dtn : t.d.dep ≤ n := by simp only [D.dep, depAll] at hn; omega
        refine iteT ⟨_, rfl, p, _, _, _, rfl, rfl, SqT.of ep, atI_nat (j := 1) rfl, xk, t, rfl, hk, dtn, fun H3 s3 => ⟨_, rfl, iteT ?_⟩⟩
        exact yl_res (ts := [t]) (g := t) (ydl_lst (yda1 (yd_ixT (i := 1) (yd_var (by rfl) (hdd2.mono (TK.of_same s3))) rfl)) (by simp)) (yd_ixT (i := 1) (yd_var (by rfl) (hdd2.mono (TK.of_same s3))) rfl) (fun u hu => by rw [List.mem_singleton.mp hu]; exact hk.wok) hk.wok (Same.refl H3) fun v' H' s' r' => k v' H' ((sH.trans s3).trans s') r'
      rw [decide_eq_false his]
      refine iteF ?_
      -- the parts
      refine ⟨_, rfl, _, rfl, by show 4 ≤ sizeLine; rw [sizeLine_eq]; omega, fun q4 n4 => ⟨q4, _, rfl, .inr (SqT.of upd_same), rfl, rfl, .inr ⟨_, rfl, _, _, rfl, rfl, ?_⟩⟩⟩
      have s4 := same_upd (o := .tup [.str "over used", .str "under used", .str "then used", .str "cut"]) n4
      have ej : (1 : Int) + (if plc nm = true then 1 else 0) = ((1 + (if plc nm = true then 1 else 0) : Nat) : Int) := by split <;> rfl
      have ep4 := s4 _ _ ep
      generalize upd H2 q4 _ = H4 at *
      refine ⟨((1 + (if plc nm = true then 1 else 0) : Nat) : Int), congrArg V.int ej, p, _, rfl, SqT.of ep4, ?_, fun S nS => ?_⟩
      · rintro ⟨z, _⟩
        rw [HT.sIx_nat] at z
        simp only [List.length_cons] at z
        omega
      have ec : cutV (V.str nm :: xr) (some ((1 + (if plc nm = true then 1 else 0) : Nat) : Int)) none = xr.drop (if plc nm = true then 1 else 0) := by
        rw [cutV_from, Nat.add_comm, List.drop_succ_cons]
      rw [ec]
      have sS := same_upd (o := .tup (xr.drop (if plc nm = true then 1 else 0))) nS
      have eS : upd H4 S (.tup (xr.drop (if plc nm = true then 1 else 0))) S = some (.tup (xr.drop (if plc nm = true then 1 else 0))) := upd_same
      have hps : DsAt H4 (xr.drop (if plc nm = true then 1 else 0)) (rest.drop (if plc nm = true then 1 else 0)) := (hxr.mono (TK.of_same s4)).drop _
      generalize hpv : xr.drop (if plc nm = true then 1 else 0) = pvs at *
      generalize hpd : rest.drop (if plc nm = true then 1 else 0) = ps at *
      generalize upd H4 S (.tup pvs) = H5 at *
      have s45 := s4.trans sS
      refine ⟨S, rfl, ⟨_, SqT.of eS⟩, fun W nW => ?_⟩
      have lps := htl.length
      have lpv := hps.length
      have hrne := tld_ne htl
      refine lc_tup (K := K) (xs := pvs) (fun i H' => Same H5 H' ∧ ∃ ys, H' W = some (.lst ys) ∧ LRs H' ys (rs.take i)) ⟨same_upd nW, [], upd_same, by rw [List.take_zero]; trivial⟩ (fun i H' _ q => SqT.of (q.1 _ _ eS)) ?_ ?_
      · rintro i x H' hx ⟨sI, ys, eW, hys⟩
        obtain ⟨d, hdi, hxd⟩ := hps.at_ hx
        obtain ⟨ri, hri, etd⟩ := htl.at_ hdi
        have md : d ∈ rest := by
          have q := List.mem_of_getElem? hdi
          rw [← hpd] at q
          exact List.mem_of_mem_drop q
        have dd : d.dep ≤ depAll rest := dep_mem md
        have zd : d.size ≤ sizeAll rest := size_mem md
        simp only [D.dep, depAll, D.size, sizeAll] at hn hz h50
        obtain ⟨hi2, _⟩ := List.getElem?_eq_some_iff.mp hx
        have ly := hys.length
        rw [List.length_take] at ly
        have ly1 : ys.length ≤ 1 := by omega
        refine ⟨rfl, x, rfl, hsp x d ri _ _ (hxd.mono (TK.of_same (sS.trans sI))) etd (by omega) (by omega) (by omega) fun v' H6 s6 hv' => ⟨ys, s6 _ _ eW, by rw [sizeLine_eq]; omega, same_over (sI.trans s6) nW, ys ++ [v'], upd_same, ?_⟩⟩
        have hys6 := hys.same s6
        rw [List.take_add_one, hri]
        exact (hys6.over (s6 _ _ eW) ly1 hys6.refs fun r' hr' => hrne r' (List.mem_of_mem_take hr')).app (hv'.over (s6 _ _ eW) ly1 hys6.refs (hrne ri (List.mem_of_getElem? hri)))
      rintro H6 ⟨s56, ys, eW, hys⟩
      have hys : LRs H6 ys rs := by rw [lpv, lps, List.take_length] at hys; exact hys
      have s26 := s45.trans s56
      have hdd6 := hdd2.mono (TK.of_same s26)
      have sH6 := sH.trans s26
      -- none of them is None
      have bdt : ∀ q ∈ ps, q.size ≤ 290 ∧ q.dep ≤ 50 := fun q hq => by
        have md : q ∈ rest := by
          rw [← hpd] at hq
          exact List.mem_of_mem_drop hq
        have dd : q.dep ≤ depAll rest := dep_mem md
        have zd : q.size ≤ sizeAll rest := size_mem md
        simp only [D.dep, depAll, D.size, sizeAll] at hz h50
        omega
      have sml : ∀ r' ∈ rs, (∀ t ∈ r'.1, t.d.dep ≤ 50) ∧ r'.2.d.dep ≤ 50 := fun r' hr' => by
        obtain ⟨i, hi⟩ := List.getElem?_of_mem hr'
        obtain ⟨hil, _⟩ := List.getElem?_eq_some_iff.mp hi
        obtain ⟨q, hq⟩ : ∃ q, ps[i]? = some q := ⟨ps[i]'(by omega), List.getElem?_eq_getElem (by omega)⟩
        obtain ⟨r2, h2, e2⟩ := htl.at_ hq
        obtain rfl := Option.some.inj (h2.symm.trans hi)
        have b := tl_bd q.size q _ (Nat.le_refl _) e2
        have bq := (bdt q (List.mem_of_getElem? hq)).2
        exact ⟨fun t ht => by have := b.2.1 t ht; omega, by have := b.2.2; omega⟩
      obtain ⟨A1, A2⟩ := lrs_all (K := K) eW hys sml
      refine ⟨_, rfl, .none, _, .non, A1, by decide +kernel, A2, _, rfl, ?_⟩
      have nn : ((rs.map toldPy).any fun z => PyData.eqv z .none) = false := by
        rw [List.any_map, List.any_eq_false]
        intro z _
        simp [toldPy, PyData.eqv]
      rw [nn]
      refine iteF ?_
      -- the last one
      have lys := hys.length
      obtain ⟨rl, hrl⟩ : ∃ rl, rs[rs.length - 1]? = some rl := ⟨rs[rs.length - 1]'(by omega), List.getElem?_eq_getElem (by omega)⟩
      obtain ⟨vl, hvl, Rl⟩ := hys.at_ hrl
      obtain ⟨pl, Ll, ul, gl, rfl, epl, eLl, hTl, hgl⟩ := Rl
      have ixl : atI ys (-1) = some (.ref pl) := by
        have ix : ixN ys.length (-1) = some (rs.length - 1) := by
          unfold ixN
          rw [if_neg (by omega), if_pos (by omega), lys]
          congr 1
          omega
        unfold atI
        rw [ix]
        exact hvl
      refine ⟨_, rfl, _, rfl, W, ys, _, _, rfl, rfl, SqL.of eW, ixl, ?_⟩
      refine ⟨pl, _, rfl, SqL.of epl, rfl, _, _, rfl, _, _, rfl, rfl, ?_⟩
      have kk : ∀ v' H', Same H6 H' → LRes H' v' (some r) → Q v' H' := fun v' H' s' r' => k v' H' (sH6.trans s') r'
      refine ⟨_, rfl, rfl, _, rfl, ?_⟩
      rw [strEq]
      have sz2 : 2 ≤ sizeLine := by rw [sizeLine_eq]; omega
      have yrow : ∀ {σ : L2.St} {i : Nat} {H' : Hp}, σ[i]? = some (some (.ref Ll)) → Same H6 H' → YdL (tVar i) σ H' (rl.1.map Ty.d) := fun e s => ydl_var e (s _ _ eLl) (hTl.mono (TK.of_same s)).ds
      have ygoal : ∀ {σ : L2.St} {i : Nat} {H' : Hp}, σ[i]? = some (some gl) → Same H6 H' → Yd (tVar i) σ H' rl.2.d := fun e s => yd_var e (hgl.mono (TK.of_same s)).d
      have wrow := Tys.woks hTl
      have wgoal := hgl.wok
      have y00 : ∀ {r0 : Told} {σ : L2.St} {H' : Hp}, rs[0]? = some r0 → σ[3]? = some (some (.ref W)) → Same H6 H' → YdL (tOp (rIxL K) (tOp (rIxL K) (tVar 3) (tC (.int 0))) (tC (.int 0))) σ H' (r0.1.map Ty.d) := fun {r0 σ H'} h0 e s H7 s7 Q7 q7 => by
        obtain ⟨v0, hv0, p0, L0, u0, g0, rfl, ep0, eL0, hT0, hg0⟩ := hys.at_ h0
        have s' := s.trans s7
        exact ⟨_, e, W, ys, 0, _, rfl, rfl, SqL.of (s' _ _ eW), atI_nat (j := 0) hv0, p0, _, 0, _, rfl, rfl, SqL.of (s' _ _ ep0), atI_nat (j := 0) rfl, q7 L0 u0 H7 (Same.refl H7) (s' _ _ eL0) (hT0.mono (TK.of_same s')).ds⟩
      have y01 : ∀ {r0 : Told} {σ : L2.St} {H' : Hp}, rs[0]? = some r0 → σ[3]? = some (some (.ref W)) → Same H6 H' → Yd (tOp (rIxL K) (tOp (rIxL K) (tVar 3) (tC (.int 0))) (tC (.int 1))) σ H' r0.2.d := fun {r0 σ H'} h0 e s H7 s7 Q7 q7 => by
        obtain ⟨v0, hv0, p0, L0, u0, g0, rfl, ep0, eL0, hT0, hg0⟩ := hys.at_ h0
        have s' := s.trans s7
        exact ⟨_, e, W, ys, 0, _, rfl, rfl, SqL.of (s' _ _ eW), atI_nat (j := 0) hv0, p0, _, 1, _, rfl, rfl, SqL.of (s' _ _ ep0), atI_nat (j := 1) rfl, q7 g0 H7 (Same.refl H7) (hg0.mono (TK.of_same s')).d⟩
      have w00 : ∀ {r0 : Told}, rs[0]? = some r0 → (∀ t ∈ r0.1, t.wok) ∧ r0.2.wok := fun h0 => by
        obtain ⟨v0, hv0, p0, L0, u0, g0, rfl, ep0, eL0, hT0, hg0⟩ := hys.at_ h0
        exact ⟨Tys.woks hT0, hg0.wok⟩
      cases tof with
      | is h => exact absurd rfl his
      | @om x rx _ h1 h2 =>
        rw [show plc "over made" = false by decide +kernel] at hpd
        obtain rfl : [x] = ps := by simpa using hpd
        obtain rfl := tld1 htl h1
        obtain rfl : rx = rl := by simpa using hrl
        obtain ⟨row, goal⟩ := rx
        simp only [madeO] at h2
        split at h2
        · cases h2
        rename_i hl
        cases h2
        have hl : ¬ row.length < 2 := hl
        have lul := hTl.length
        have lul : ul.length = row.length := lul
        rw [decide_eq_false (by decide)]
        refine iteF ⟨_, rfl, sz2, fun q7 n7 => ⟨q7, _, rfl, .inr (SqT.of upd_same), rfl, rfl, true, congrArg V.bl (show _ = true by decide +kernel), iteT ?_⟩⟩
        have s7 := same_upd (o := .tup [.str "over made", .str "under made"]) n7
        generalize upd H6 q7 _ = H7 at *
        refine ⟨_, rfl, Ll, ul, rfl, .inl (SqL.of (s7 _ _ eLl)), _, _, rfl, rfl, _, rfl, ?_⟩
        rw [decide_eq_false (show ¬ (ul.length : Int) < 2 by omega)]
        refine iteF ⟨_, rfl, rfl, true, congrArg V.bl (decide_eq_true rfl), iteT ?_⟩
        have hla := lastD_at (row := row) (by omega)
        have hlast : (row.map Ty.d)[(row.map Ty.d).length - 1]? = some (row.getLastD (.w "")).d := by
          rw [List.getElem?_map, List.length_map, hla]
          rfl
        refine yl_res (ts := row.dropLast) (g := .n .ov goal (row.getLastD (.w ""))) (by rw [List.map_dropLast]; exact ydl_init (yrow (by rfl) s7) (fun H' s' Q' q' => ⟨_, rfl, q'⟩)) (yt3 (d := goal.d) (e := (row.getLastD (.w "")).d) tx_over (ygoal (by rfl) s7) (yd_last (yrow (by rfl) s7) (fun H' s' Q' q' => ⟨_, rfl, q'⟩) hlast)) (fun t ht => wrow t (List.dropLast_subset _ ht)) ⟨wgoal, wrow _ (List.mem_of_getElem? hla)⟩ (Same.refl H7) fun v' H' s' r' => kk v' H' (s7.trans s') r'
      | @um x rx _ h1 h2 =>
        rw [show plc "under made" = false by decide +kernel] at hpd
        obtain rfl : [x] = ps := by simpa using hpd
        obtain rfl := tld1 htl h1
        obtain rfl : rx = rl := by simpa using hrl
        obtain ⟨row, goal⟩ := rx
        rcases row with _ | ⟨a0, _ | ⟨a1, row⟩⟩
        · cases h2
        · cases h2
        cases h2
        have lul := hTl.length
        have lul : ul.length = row.length + 2 := lul
        rw [decide_eq_false (by decide)]
        refine iteF ⟨_, rfl, sz2, fun q7 n7 => ⟨q7, _, rfl, .inr (SqT.of upd_same), rfl, rfl, true, congrArg V.bl (show _ = true by decide +kernel), iteT ?_⟩⟩
        have s7 := same_upd (o := .tup [.str "over made", .str "under made"]) n7
        generalize upd H6 q7 _ = H7 at *
        refine ⟨_, rfl, Ll, ul, rfl, .inl (SqL.of (s7 _ _ eLl)), _, _, rfl, rfl, _, rfl, ?_⟩
        rw [decide_eq_false (show ¬ (ul.length : Int) < 2 by omega)]
        refine iteF ⟨_, rfl, rfl, false, congrArg V.bl (decide_eq_false (by decide)), iteF ?_⟩
        exact yl_res (ts := a1 :: row) (g := .n .un a0 goal) (ydl_drop (n := 1) (ds := (a0 :: a1 :: row).map Ty.d) (yrow (by rfl) s7) yi_int) (yt3 (d := a0.d) (e := goal.d) tx_under (yd_ixL (i := 0) (yrow (by rfl) s7) yi_int rfl) (ygoal (by rfl) s7)) (fun t ht => wrow t (List.mem_cons_of_mem _ ht)) ⟨wrow _ List.mem_cons_self, wgoal⟩ (Same.refl H7) fun v' H' s' r' => kk v' H' (s7.trans s') r'
      | @tm x y rx ry h1 h2 =>
        rw [show plc "then made" = false by decide +kernel] at hpd
        obtain rfl : [x, y] = ps := by simpa using hpd
        obtain rfl := tld2 htl h1 h2
        obtain rfl : ry = rl := by simpa using hrl
        rw [decide_eq_true rfl]
        obtain ⟨wx1, wx2⟩ := w00 (r0 := rx) rfl
        have zx := (tl_bd x.size x _ (Nat.le_refl _) h1).1
        have zy := (tl_bd y.size y _ (Nat.le_refl _) h2).1
        have z1 := (bdt x (by simp)).1
        have z2 := (bdt y (by simp)).1
        refine iteT (yl_res (ts := rx.1 ++ ry.1) (g := .n .th rx.2 ry.2) (by rw [List.map_append]; exact ydl_cat (y00 rfl (by rfl) (Same.refl H6)) (yrow (by rfl) (Same.refl H6)) (by rw [List.length_map, List.length_map]; omega)) (yt3 (d := rx.2.d) (e := ry.2.d) tx_then (y01 rfl (by rfl) (Same.refl H6)) (ygoal (by rfl) (Same.refl H6))) (fun t ht => (List.mem_append.mp ht).elim (wx1 t) (wrow t)) ⟨wx2, wgoal⟩ (Same.refl H6) kk)
      | @tu p' y ry _ h1 h2 =>
        rw [show plc "then used" = true by decide +kernel] at hpd
        obtain rfl : [y] = ps := by simpa using hpd
        obtain rfl := tld1 htl h1
        obtain rfl : ry = rl := by simpa using hrl
        obtain ⟨row, goal⟩ := ry
        obtain ⟨xa, xb, rfl, ba, bb⟩ := dsAt2 hxr
        cases ba
        have lul := hTl.length
        have lul : ul.length = row.length := lul
        have p0 := thenU_p h2
        obtain ⟨j, rfl⟩ := Int.eq_ofNat_of_zero_le p0
        unfold thenU at h2
        rw [if_pos p0] at h2
        simp only [Int.toNat_natCast] at h2
        split at h2
        · rename_i ta tb ha hb
          cases h2
          obtain ⟨ja, _⟩ := List.getElem?_eq_some_iff.mp ha
          obtain ⟨jb, _⟩ := List.getElem?_eq_some_iff.mp hb
          have ja : j < row.length := ja
          have jb : j + 1 < row.length := jb
          rw [decide_eq_false (by decide)]
          refine iteF ⟨_, rfl, sz2, fun q7 n7 => ⟨q7, _, rfl, .inr (SqT.of upd_same), rfl, rfl, false, congrArg V.bl (show _ = false by decide +kernel), iteF ?_⟩⟩
          have s7 := same_upd (o := .tup [.str "over made", .str "under made"]) n7
          have ep7 := (s26.trans s7) _ _ ep
          generalize upd H6 q7 _ = H7 at *
          refine ⟨_, rfl, p, _, _, _, rfl, rfl, SqT.of ep7, atI_nat (j := 1) rfl, ?_⟩
          refine ⟨_, rfl, _, _, _, _, true, rfl, .ty "int", .base (.int _), kit_ty (by decide +kernel), _, rfl, iteF ?_⟩
          refine ⟨_, rfl, _, _, _, _, false, rfl, .ty "bool", .base (.int _), kit_ty (by decide +kernel), _, rfl, iteF ?_⟩
          refine ⟨_, rfl, _, _, rfl, rfl, _, rfl, ?_⟩
          rw [decide_eq_false (show ¬ (j : Int) < 0 by omega)]
          refine iteF ⟨_, rfl, _, rfl, rfl, .inr ⟨_, rfl, _, _, rfl, rfl, _, rfl, Ll, ul, rfl, .inl (SqL.of (s7 _ _ eLl)), _, _, rfl, rfl, _, rfl, ?_⟩⟩
          rw [decide_eq_false (show ¬ ((ul.length : Int) ≤ (j : Int) + if decide (V.str "then used" = V.str "then used") = true then 1 else 0) by
            rw [if_pos (decide_eq_true rfl)]
            omega)]
          refine iteF ⟨_, rfl, rfl, true, congrArg V.bl (decide_eq_true rfl), iteT ?_⟩
          have ha' : (row.map Ty.d)[j]? = some ta.d := by rw [List.getElem?_map, ha]; rfl
          have hb' : (row.map Ty.d)[j + 1]? = some tb.d := by rw [List.getElem?_map, hb]; rfl
          have zy := (tl_bd y.size y _ (Nat.le_refl _) h1).1
          have z1 := (bdt y (by simp)).1
          have zr : row.length ≤ 290 := by have : (((row, goal) : Told).1).length ≤ y.size := zy; have : row.length ≤ y.size := this; omega
          refine yl_res (ts := row.take j ++ [.n .th ta tb] ++ row.drop (j + 2)) (g := goal) ?yr (ygoal (by rfl) s7) ?yw wgoal (Same.refl H7) fun v' H' s' r' => kk v' H' (s7.trans s') r'
          case yr =>
            rw [List.map_append, List.map_append, List.map_take, List.map_drop]
            refine ydl_cat (ydl_cat (ydl_take (yrow (by rfl) s7) (yi_var (by rfl))) (ydl_lst (yda1 (yt3 (d := ta.d) (e := tb.d) tx_then (yd_ixL (yrow (by rfl) s7) (yi_var (by rfl)) ha') (yd_ixL (i := j + 1) (yrow (by rfl) s7) (fun H' s' Q' q' => ⟨_, rfl, _, _, rfl, rfl, q'⟩) hb'))) (by simp)) ?_) (ydl_drop (n := j + 2) (yrow (by rfl) s7) (fun H' s' Q' q' => ⟨_, rfl, _, _, rfl, rfl, q'⟩)) ?_
            · simp only [List.length_take, List.length_map, List.length_cons, List.length_nil]; omega
            · simp only [List.length_take, List.length_drop, List.length_map, List.length_cons, List.length_nil, List.length_append]; omega
          case yw =>
            intro t ht
            simp only [List.mem_append, List.mem_singleton] at ht
            rcases ht with (h | h) | h
            · exact wrow t (List.mem_of_mem_take h)
            · rw [h]; exact ⟨wrow ta (List.mem_of_getElem? ha), wrow tb (List.mem_of_getElem? hb)⟩
            · exact wrow t (List.mem_of_mem_drop h)
        · cases h2
      | @us nm p' x y rx ry _ h0 h1 h2 h3 =>
        obtain ⟨q1, q2, q3, q4⟩ : plc nm = true ∧ ¬ nm = "then made" ∧ inV (.str nm) [V.str "over made", .str "under made"] = false ∧ ¬ nm = "then used" := by
          have hn : nm = "over used" ∨ nm = "under used" ∨ nm = "cut" := by simpa [placed, or_assoc] using h0
          rcases hn with rfl | rfl | rfl
          · exact ⟨by decide +kernel, by decide, by decide +kernel, by decide⟩
          · exact ⟨by decide +kernel, by decide, by decide +kernel, by decide⟩
          · exact ⟨by decide +kernel, by decide, by decide +kernel, by decide⟩
        rw [q1] at hpd
        obtain rfl : [x, y] = ps := by simpa using hpd
        obtain rfl := tld2 htl h1 h2
        obtain rfl : ry = rl := by simpa using hrl
        obtain ⟨row, goal⟩ := ry
        obtain ⟨srow, z⟩ := rx
        obtain ⟨xa, xb, xc, rfl, ba, bb, bc⟩ := dsAt3 hxr
        cases ba
        have lul := hTl.length
        have lul : ul.length = row.length := lul
        obtain ⟨p0, k0, hk0⟩ := usedAt_p h3
        obtain ⟨j, rfl⟩ := Int.eq_ofNat_of_zero_le p0
        have hk0 : row[j]? = some k0 := hk0
        obtain ⟨ja, _⟩ := List.getElem?_eq_some_iff.mp hk0
        obtain ⟨row', rfl⟩ : ∃ row', r = (row', goal) := by
          unfold usedAt at h3
          rw [if_pos p0] at h3
          simp only [Int.toNat_natCast, hk0] at h3
          split at h3
          · cases h3; exact ⟨_, rfl⟩
          · split at h3
            · cases h3; exact ⟨_, rfl⟩
            · split at h3
              · cases h3; exact ⟨_, rfl⟩
              · cases h3
        rw [decide_eq_false q2]
        refine iteF ⟨_, rfl, sz2, fun q7 n7 => ⟨q7, _, rfl, .inr (SqT.of upd_same), rfl, rfl, false, congrArg V.bl (by rw [if_neg (by decide)]; exact q3), iteF ?_⟩⟩
        have s7 := same_upd (o := .tup [.str "over made", .str "under made"]) n7
        have ep7 := (s26.trans s7) _ _ ep
        generalize upd H6 q7 _ = H7 at *
        refine ⟨_, rfl, p, _, _, _, rfl, rfl, SqT.of ep7, atI_nat (j := 1) rfl, ?_⟩
        refine ⟨_, rfl, _, _, _, _, true, rfl, .ty "int", .base (.int _), kit_ty (by decide +kernel), _, rfl, iteF ?_⟩
        refine ⟨_, rfl, _, _, _, _, false, rfl, .ty "bool", .base (.int _), kit_ty (by decide +kernel), _, rfl, iteF ?_⟩
        refine ⟨_, rfl, _, _, rfl, rfl, _, rfl, ?_⟩
        rw [decide_eq_false (show ¬ (j : Int) < 0 by omega)]
        refine iteF ⟨_, rfl, _, rfl, rfl, .inr ⟨_, rfl, _, _, rfl, rfl, _, rfl, Ll, ul, rfl, .inl (SqL.of (s7 _ _ eLl)), _, _, rfl, rfl, _, rfl, ?_⟩⟩
        have dn : decide (V.str nm = V.str "then used") = false := decide_eq_false fun z => q4 (by injection z)
        rw [decide_eq_false (show ¬ ((ul.length : Int) ≤ (j : Int) + if decide (V.str nm = V.str "then used") = true then 1 else 0) by
          rw [if_neg (by rw [dn]; decide)]
          omega)]
        refine iteF ⟨_, rfl, rfl, false, congrArg V.bl dn, iteF ?_⟩
        obtain ⟨v0, hv0, p0', L0, u0, g0, rfl, ep0, eL0, hT0, hg0⟩ := hys.at_ (i := 0) (r := (srow, z)) rfl
        have hT0 : Tys H6 u0 srow := hT0
        have hg0 : TyAt H6 g0 z := hg0
        have zx := (tl_bd x.size x _ (Nat.le_refl _) h1).1
        have zy := (tl_bd y.size y _ (Nat.le_refl _) h2).1
        have z1 := (bdt x (by simp)).1
        have z2 := (bdt y (by simp)).1
        have zx : srow.length ≤ x.size := zx
        have zy : row.length ≤ y.size := zy
        have smx := sml (srow, z) (by simp)
        have smy := sml (row, goal) (by simp)
        have dz : z.d.dep ≤ 50 := smx.2
        refine ⟨_, rfl, _, rfl, _, rfl, _, rfl, W, ys, _, _, rfl, rfl, SqL.of (s7 _ _ eW), atI_nat (j := 0) hv0, p0', _, _, _, rfl, rfl, SqL.of (s7 _ _ ep0), atI_nat (j := 0) rfl, _, rfl, W, ys, _, _, rfl, rfl, SqL.of (s7 _ _ eW), atI_nat (j := 0) hv0, p0', _, _, _, rfl, rfl, SqL.of (s7 _ _ ep0), atI_nat (j := 1) rfl, ?_⟩
        refine ⟨nm, Ll, L0, j, g0, ul, u0, row, srow, row', z, goal, rfl, h0, s7 _ _ eLl, hTl.mono (TK.of_same s7), s7 _ _ eL0, hT0.mono (TK.of_same s7), hg0.mono (TK.of_same s7), by omega, by omega, by omega, fun t ht => by have := smy.1 t ht; omega, h3, fun L ws H8 s8 eL8 hT8 => ?_⟩
        refine ⟨_, rfl, rfl, false, congrArg V.bl (decide_eq_false (fun z => by cases z)), iteF ?_⟩
        have s68 := s7.trans s8
        exact yl_res (ts := row') (g := goal) (ydl_var (by rfl) eL8 hT8.ds) (ygoal (by rfl) s68) (Tys.woks hT8) wgoal (Same.refl H8) fun v' H' s' r' => kk v' H' (s68.trans s') r'
theorem ok_told {f fk fu : Addr} {fd fdk fdu : FuncData} (T : Top K mg "_law_told" sLTold pLTold f fd) (TKd : Top K mg "_law_is_kind" sLIsKind pLIsKind fk fdk) (TU : Top K mg "_law_used" sLUsed pLUsed fu fdu) (B : Blt mg) (GU : FnOk P w K mg base CX0 1 fu fdu pLUsed spUsed) : ∀ n : Nat, FnOk P w K mg base CX0 (3 + n) f fd pLTold (spLTold n)
  | 0 => told_step (m := 2) T TKd TU B (fn_vac.mono (by omega)) (by omega) (fun _ _ _ _ _ _ _ h _ _ _ => absurd h (by omega)) ((ok_lkd TKd B 0).mono (by omega)) GU
  | n + 1 => told_step (m := 3 + n) T TKd TU B (ok_told T TKd TU B GU n) (by omega) (fun v d r H Q h1 h2 h3 h4 h5 h6 => ⟨v, d, r, rfl, h1, h2, by omega, h4, h5, h6⟩) ((ok_lkd TKd B (n + 1)).mono (by omega)) GU
end
end S4

namespace S4
open PySem PySem.Spec PyProof.Rows L2 LamX KT
open PySem.W (Frag)
theorem Case.shape {j : Int} {ds : List D} {d : D} {row : List Ty} {goal : Ty} (h : Case j ds d row goal) : (j = 0 ∧ ds.length = 3) ∨ (j = 1 ∧ ds.length = 2) ∨ (j = 2 ∧ ds.length = 2) ∨ (j = 3 ∧ ds.length = 1) ∨ (j = 4 ∧ ds.length = 1) ∨ (j = 5 ∧ ds.length = 1) := by
  cases h <;> simp
section
variable {P : Program} {w : World} {K : Frag} {mg : Str → Option Value} {base : Heap}
structure NRs (P : Program) (w : World) (K : Frag) (mg : Str → Option Value) (base : Heap) (f0 f1 f2 f3 f4 f5 : Addr) (d0 d1 d2 d3 d4 d5 : FuncData) : Prop where
  T0 : Top K mg "raising" sRaising pRaising f0 d0
  T1 : Top K mg "composing" sComposing pComposing f1 d1
  T2 : Top K mg "dividing" sDividing pDividing f2 d2
  T3 : Top K mg "swapping" sSwapping pSwapping f3 d3
  T4 : Top K mg "parting" sParting pParting f4 d4
  T5 : Top K mg "packing" sPacking pPacking f5 d5
  G0 : FnOk P w K mg base CX0 4 f0 d0 pRaising (spN 0 3)
  G1 : FnOk P w K mg base CX0 4 f1 d1 pComposing (spN 1 2)
  G2 : FnOk P w K mg base CX0 4 f2 d2 pDividing (spN 2 2)
  G3 : FnOk P w K mg base CX0 4 f3 d3 pSwapping (spN 3 1)
  G4 : FnOk P w K mg base CX0 4 f4 d4 pParting (spN 4 1)
  G5 : FnOk P w K mg base CX0 4 f5 d5 pPacking (spN 5 1)
def spNmd : Sp := fun vs H Q _ => ∃ (j : Int) (L : Addr) (us : List V) (ds : List D) (d : D) (row : List Ty) (goal : Ty), vs = [.int j, .ref L] ∧ H L = some (.lst us) ∧ DsAt H us ds ∧ Case j ds d row goal ∧ (∀ e ∈ ds, e.dep ≤ 60 ∧ e.size ≤ 1000000) ∧ ∀ v' H', Same H H' → DAt H' v' d → Q v' H'
theorem ok_named {f f0 f1 f2 f3 f4 f5 : Addr} {fd d0 d1 d2 d3 d4 d5 : FuncData} (T : Top K mg "_law_named" sLNamed pLNamed f fd) (R : NRs P w K mg base f0 f1 f2 f3 f4 f5 d0 d1 d2 d3 d4 d5) : FnOk P w K mg base CX0 5 f fd pLNamed spNmd := by
  obtain ⟨T0, T1, T2, T3, T4, T5, G0, G1, G2, G3, G4, G5⟩ := R
  refine T.F.ok scLNamed (fun vs H Q E h => ?_) (fun cdv A outer s H vs Q E hr h => ?_)
  · obtain ⟨_, _, _, _, _, _, _, rfl, _⟩ := h
    rfl
  · obtain ⟨j, L, us, ds, d, row, goal, rfl, eL, hd, hc, hs, q⟩ := h
    refine ⟨_, (pss_cons (ps_if (pt_cmpR op_in_seq (pv 0) (pe_tup (pa_cons pe_int (pa_cons pe_int pa_nil))) (by rfl)) (pss_one (ps_ret (pe_ifExp (pt_cmpR op_eq (pv 0) pe_int (nomark _)) (pe_call G0 hr rfl T0.g T0.F.kp T0.b .nil pass0 (pa_cons (pe_ix ix_list (pv 1) pe_int (fun _ _ => rfl)) (pa_cons (pe_ix ix_list (pv 1) pe_int (fun _ _ => rfl)) (pa_cons (pe_ix ix_list (pv 1) pe_int (fun _ _ => rfl)) pa_nil)))) (pe_call G1 hr rfl T1.g T1.F.kp T1.b .nil pass0 (pa_cons (pe_ix ix_list (pv 1) pe_int (fun _ _ => rfl)) (pa_cons (pe_ix ix_list (pv 1) pe_int (fun _ _ => rfl)) pa_nil)))))) pss_nil)
      (pss_cons (ps_if (pt_cmpR op_in_seq (pv 0) (pe_tup (pa_cons pe_int (pa_cons pe_int pa_nil))) (by rfl)) (pss_one (ps_ret (pe_ifExp (pt_cmpR op_eq (pv 0) pe_int (nomark _)) (pe_call G2 hr rfl T2.g T2.F.kp T2.b .nil pass0 (pa_cons (pe_ix ix_list (pv 1) pe_int (fun _ _ => rfl)) (pa_cons (pe_ix ix_list (pv 1) pe_int (fun _ _ => rfl)) pa_nil))) (pe_call G3 hr rfl T3.g T3.F.kp T3.b .nil pass0 (pa_cons (pe_ix ix_list (pv 1) pe_int (fun _ _ => rfl)) pa_nil))))) pss_nil)
      (pss_one (ps_ret (pe_ifExp (pt_cmpR op_eq (pv 0) pe_int (nomark _)) (pe_call G4 hr rfl T4.g T4.F.kp T4.b .nil pass0 (pa_cons (pe_ix ix_list (pv 1) pe_int (fun _ _ => rfl)) pa_nil)) (pe_call G5 hr rfl T5.g T5.F.kp T5.b .nil pass0 (pa_cons (pe_ix ix_list (pv 1) pe_int (fun _ _ => rfl)) pa_nil))))))), ?_⟩
    have sz2 : 2 ≤ sizeLine := by rw [sizeLine_eq]; omega
    have ll := hd.length
    refine ⟨_, rfl, sz2, fun q7 n7 => ⟨q7, _, rfl, .inr (SqT.of upd_same), rfl, rfl, ?_⟩⟩
    have s7 := same_upd (o := .tup [.int 0, .int 1]) n7
    have eL7 := s7 _ _ eL
    have hd7 := hd.mono (TK.of_same s7)
    generalize upd H q7 _ = H7 at *
    rcases hc.shape with ⟨rfl, l⟩ | ⟨rfl, l⟩ | ⟨rfl, l⟩ | ⟨rfl, l⟩ | ⟨rfl, l⟩ | ⟨rfl, l⟩
    · rcases us with _ | ⟨u0, _ | ⟨u1, _ | ⟨u2, _ | ⟨u3, us⟩⟩⟩⟩
      · simp at ll; omega
      · simp at ll; omega
      · simp at ll; omega
      · refine ⟨true, congrArg V.bl (show _ = true by decide +kernel), iteT ⟨_, rfl, rfl, true, congrArg V.bl (decide_eq_true rfl), iteT ?_⟩⟩
        refine ⟨_, rfl, L, _, _, _, rfl, rfl, SqL.of eL7, atI_nat (j := 0) rfl, _, rfl, L, _, _, _, rfl, rfl, SqL.of eL7, atI_nat (j := 1) rfl, _, rfl, L, _, _, _, rfl, rfl, SqL.of eL7, atI_nat (j := 2) rfl, ?_⟩
        exact ⟨ds, d, row, goal, rfl, hd7, hc, hs, fun v' H' s' h' => q v' H' (s7.trans s') h'⟩
      · simp at ll; omega
    · rcases us with _ | ⟨u0, _ | ⟨u1, _ | ⟨u2, us⟩⟩⟩
      · simp at ll; omega
      · simp at ll; omega
      · refine ⟨true, congrArg V.bl (show _ = true by decide +kernel), iteT ⟨_, rfl, rfl, false, congrArg V.bl (decide_eq_false (by decide)), iteF ?_⟩⟩
        refine ⟨_, rfl, L, _, _, _, rfl, rfl, SqL.of eL7, atI_nat (j := 0) rfl, _, rfl, L, _, _, _, rfl, rfl, SqL.of eL7, atI_nat (j := 1) rfl, ?_⟩
        exact ⟨ds, d, row, goal, rfl, hd7, hc, hs, fun v' H' s' h' => q v' H' (s7.trans s') h'⟩
      · simp at ll; omega
    · rcases us with _ | ⟨u0, _ | ⟨u1, _ | ⟨u2, us⟩⟩⟩
      · simp at ll; omega
      · simp at ll; omega
      · refine ⟨false, congrArg V.bl (show _ = false by decide +kernel), iteF ?_⟩
        refine ⟨_, rfl, sz2, fun q8 n8 => ⟨q8, _, rfl, .inr (SqT.of upd_same), rfl, rfl, ?_⟩⟩
        have s8 := same_upd (o := .tup [.int 2, .int 3]) n8
        have eL8 := s8 _ _ eL7
        have hd8 := hd7.mono (TK.of_same s8)
        generalize upd H7 q8 _ = H8 at *
        refine ⟨true, congrArg V.bl (show _ = true by decide +kernel), iteT ⟨_, rfl, rfl, true, congrArg V.bl (decide_eq_true rfl), iteT ?_⟩⟩
        refine ⟨_, rfl, L, _, _, _, rfl, rfl, SqL.of eL8, atI_nat (j := 0) rfl, _, rfl, L, _, _, _, rfl, rfl, SqL.of eL8, atI_nat (j := 1) rfl, ?_⟩
        exact ⟨ds, d, row, goal, rfl, hd8, hc, hs, fun v' H' s' h' => q v' H' ((s7.trans s8).trans s') h'⟩
      · simp at ll; omega
    · rcases us with _ | ⟨u0, _ | ⟨u1, us⟩⟩
      · simp at ll; omega
      · refine ⟨false, congrArg V.bl (show _ = false by decide +kernel), iteF ?_⟩
        refine ⟨_, rfl, sz2, fun q8 n8 => ⟨q8, _, rfl, .inr (SqT.of upd_same), rfl, rfl, ?_⟩⟩
        have s8 := same_upd (o := .tup [.int 2, .int 3]) n8
        have eL8 := s8 _ _ eL7
        have hd8 := hd7.mono (TK.of_same s8)
        generalize upd H7 q8 _ = H8 at *
        refine ⟨true, congrArg V.bl (show _ = true by decide +kernel), iteT ⟨_, rfl, rfl, false, congrArg V.bl (decide_eq_false (by decide)), iteF ?_⟩⟩
        refine ⟨_, rfl, L, _, _, _, rfl, rfl, SqL.of eL8, atI_nat (j := 0) rfl, ?_⟩
        exact ⟨ds, d, row, goal, rfl, hd8, hc, hs, fun v' H' s' h' => q v' H' ((s7.trans s8).trans s') h'⟩
      · simp at ll; omega
    · rcases us with _ | ⟨u0, _ | ⟨u1, us⟩⟩
      · simp at ll; omega
      · refine ⟨false, congrArg V.bl (show _ = false by decide +kernel), iteF ?_⟩
        refine ⟨_, rfl, sz2, fun q8 n8 => ⟨q8, _, rfl, .inr (SqT.of upd_same), rfl, rfl, ?_⟩⟩
        have s8 := same_upd (o := .tup [.int 2, .int 3]) n8
        have eL8 := s8 _ _ eL7
        have hd8 := hd7.mono (TK.of_same s8)
        generalize upd H7 q8 _ = H8 at *
        refine ⟨false, congrArg V.bl (show _ = false by decide +kernel), iteF ⟨_, rfl, rfl, true, congrArg V.bl (decide_eq_true rfl), iteT ?_⟩⟩
        refine ⟨_, rfl, L, _, _, _, rfl, rfl, SqL.of eL8, atI_nat (j := 0) rfl, ?_⟩
        exact ⟨ds, d, row, goal, rfl, hd8, hc, hs, fun v' H' s' h' => q v' H' ((s7.trans s8).trans s') h'⟩
      · simp at ll; omega
    · rcases us with _ | ⟨u0, _ | ⟨u1, us⟩⟩
      · simp at ll; omega
      · refine ⟨false, congrArg V.bl (show _ = false by decide +kernel), iteF ?_⟩
        refine ⟨_, rfl, sz2, fun q8 n8 => ⟨q8, _, rfl, .inr (SqT.of upd_same), rfl, rfl, ?_⟩⟩
        have s8 := same_upd (o := .tup [.int 2, .int 3]) n8
        have eL8 := s8 _ _ eL7
        have hd8 := hd7.mono (TK.of_same s8)
        generalize upd H7 q8 _ = H8 at *
        refine ⟨false, congrArg V.bl (show _ = false by decide +kernel), iteF ⟨_, rfl, rfl, false, congrArg V.bl (decide_eq_false (by decide)), iteF ?_⟩⟩
        refine ⟨_, rfl, L, _, _, _, rfl, rfl, SqL.of eL8, atI_nat (j := 0) rfl, ?_⟩
        exact ⟨ds, d, row, goal, rfl, hd8, hc, hs, fun v' H' s' h' => q v' H' ((s7.trans s8).trans s') h'⟩
      · simp at ll; omega
/-! ### a derivation cut into another -/
def spCutIn : Sp := fun vs H Q _ => ∃ v1 v2 d1 d2 r1 g1 r2 g2, vs = [v1, v2, .int 0] ∧ DAt H v1 d1 ∧ DAt H v2 d2 ∧ d1.size ≤ 4000 ∧ d1.dep ≤ 60 ∧ d2.size ≤ 4000 ∧ d2.dep ≤ 60 ∧ d1.tl = some (r1, g1) ∧ d2.tl = some (g1 :: r2, g2) ∧ ∀ v' H', Same H H' → DAt H' v' (.t [.s "cut", .i 0, d1, d2]) → Q v' H'
theorem ok_cutIn {f fb fc : Addr} {fd fdb fdc : FuncData} (T : Top K mg "cut_in" sCutIn pCutIn f fd) (TB : Top K mg "told_by" sToldBy pToldBy fb fdb) (TC : Top K mg "is_count" sIsCount pIsCount fc fdc) (GB : FnOk P w K mg base CX0 7 fb fdb pToldBy spToldBy) (GC : FnOk P w K mg base CX0 1 fc fdc pIsCount spIsCountD) (B : Blt mg) : FnOk P w K mg base CX0 8 f fd pCutIn spCutIn := by
  refine T.F.ok scCutIn (fun vs H Q E h => ?_) (fun cdv A outer s H vs Q E hr h => ?_)
  · obtain ⟨_, _, _, _, _, _, _, _, rfl, _⟩ := h
    rfl
  · obtain ⟨v1, v2, d1, d2, r1, g1, r2, g2, rfl, h1, h2, z1, p1, z2, p2, e1, e2, q⟩ := h
    have hr1 : Room 1 _ := hr.mono (by decide)
    refine ⟨_, (pss_cons (ps_set (i := 3) scCutIn.nd rfl (Or.inl rfl) (pe_ix ix_tup (pe_call GB hr rfl TB.g TB.F.kp TB.b .nil pass0 (pa_cons (pv 0) pa_nil)) pe_int (fun _ _ => rfl)))
      (pss_cons (ps_set (i := 4) scCutIn.nd rfl (Or.inl rfl) (pe_ix ix_tup (pe_call GB hr rfl TB.g TB.F.kp TB.b .nil pass0 (pa_cons (pv 1) pa_nil)) pe_int (fun _ _ => rfl)))
      (pss_cons (ps_if (PW.pt (pw_or (pt_not (pt_val (pe_call GC hr1 rfl TC.g TC.F.kp TC.b .nil pass0 (pa_cons (pv 2) pa_nil)))) (pw_or1 (pt_cmpR op_ge (pv 2) (pe_callB call_len_seq (by rfl) B.len PySem.boot_len (pa_cons (pv 4) pa_nil)) (nomark _))))) pss_never pss_nil)
      (pss_cons (ps_if (pt_cmpR (op_neD (hu64 hr)) (pe_ix ix_list (pv 4) (pv 2) (fun _ _ => rfl)) (pv 3) (nomark _)) pss_never pss_nil)
      (pss_one (ps_ret (pe_tup (pa_cons pe_str (pa_cons (pv 2) (pa_cons (pv 0) (pa_cons (pv 1) pa_nil))))))))))), ?_⟩
    refine ⟨v1, rfl, v1, d1, _, rfl, h1, z1, p1, e1, fun t1 H1 s1 R1 => ?_⟩
    obtain ⟨q1, L1, us1, x1, rfl, _, eq1, eL1, hT1, hg1⟩ := R1
    refine ⟨q1, _, _, _, rfl, rfl, SqT.of eq1, atI_nat (j := 1) rfl, ?_⟩
    refine ⟨v2, rfl, v2, d2, _, rfl, h2.mono (TK.of_same s1), z2, p2, e2, fun t2 H2 s2 R2 => ?_⟩
    obtain ⟨q2, L2, us2, x2, rfl, _, eq2, eL2, hT2, hg2⟩ := R2
    refine ⟨q2, _, _, _, rfl, rfl, SqT.of eq2, atI_nat (j := 0) rfl, ?_⟩
    have s12 := s1.trans s2
    have hT2 : Tys H2 us2 (g1 :: r2) := hT2
    obtain ⟨y, ys, rfl, hy⟩ : ∃ y ys, us2 = y :: ys ∧ TyAt H2 y g1 := by
      cases hT2 with
      | cons a _ => exact ⟨_, _, rfl, a⟩
    refine ⟨_, rfl, _, .i 0, rfl, .i 0, ?_⟩
    have ec : (D.i 0).isCnt = true := by decide
    rw [ec]
    refine ⟨_, rfl, iteF ?_⟩
    refine ⟨_, rfl, _, rfl, L2, _, rfl, .inl (SqL.of eL2), _, _, rfl, rfl, _, rfl, ?_⟩
    rw [decide_eq_false (show ¬ (((y :: ys).length : Nat) : Int) ≤ 0 by simp only [List.length_cons]; omega)]
    refine iteF ?_
    have bg : g1.d.dep ≤ 60 := by
      have := (tl_bd d1.size d1 _ (Nat.le_refl _) e1).2.2
      have q : ((r1, g1) : Told).2.d.dep = g1.d.dep := rfl
      omega
    obtain ⟨A1, A2⟩ := ty_dp (K := K) hy bg
    obtain ⟨B1, B2⟩ := ty_dp (K := K) (hg1.mono (TK.of_same s2)) bg
    refine ⟨_, rfl, _, rfl, L2, _, _, _, rfl, rfl, SqL.of eL2, atI_nat (j := 0) rfl, _, rfl, _, _, A1, B1, A2, B2, ?_⟩
    rw [eqv_ty, decide_eq_true rfl]
    refine ⟨_, rfl, iteF ?_⟩
    exact yd_ret (yt4 (d := .i 0) (txtIs _ (by simp)) (yd_var (by rfl) (.i 0)) (yd_var (by rfl) (h1.mono (TK.of_same s12))) (yd_var (by rfl) (h2.mono (TK.of_same s12)))) (Same.refl H2) fun v' H' s' h' => q v' H' (s12.trans s') h'
end
end S4

namespace S4
open PySem PySem.Spec PyProof.Rows L2 LamX KT
open PySem.W (Frag)
theorem Case.woks {j : Int} {ds : List D} {d : D} {row : List Ty} {goal : Ty} (h : Case j ds d row goal) : (∀ t ∈ row, t.wok) ∧ goal.wok := by
  cases h <;> simp_all [Ty.wok]
theorem Case.small {j : Int} {ds : List D} {d : D} {row : List Ty} {goal : Ty} (h : Case j ds d row goal) (hr : ∀ t ∈ row, t.signs ≤ 11) (hg : goal.signs ≤ 11) : (∀ e ∈ ds, e.dep ≤ 11 ∧ e.size ≤ 50) ∧ d.size ≤ 280 ∧ d.dep ≤ 30 := by
  have ty : ∀ t : Ty, t.signs ≤ 11 → t.d.dep ≤ 11 ∧ t.d.size ≤ 50 := fun t ht => by have := ty_dep_small t; omega
  have st : ∀ z : Str, (D.s z).dep ≤ 11 ∧ (D.s z).size ≤ 50 := fun z => by simp only [D.dep, D.size]; omega
  have big : ∀ a b c : Ty, a.signs ≤ 11 → b.signs ≤ 11 → c.signs ≤ 11 → (a.d.size ≤ 45 ∧ a.d.dep ≤ 11) ∧ (b.d.size ≤ 45 ∧ b.d.dep ≤ 11) ∧ (c.d.size ≤ 45 ∧ c.d.dep ≤ 11) := fun a b c h1 h2 h3 => by
    have q1 := ty_dep_small a
    have q2 := ty_dep_small b
    have q3 := ty_dep_small c
    omega
  cases h with
  | @r0 a b h1 h2 =>
    simp only [List.mem_singleton, forall_eq, Ty.signs] at hr hg
    obtain ⟨b1, b2, _⟩ := big a b a (by omega) (by omega) (by omega)
    refine ⟨fun e he => ?_, by simp only [D.size, sizeAll, D.dep, depAll]; omega⟩
    simp only [List.mem_cons, List.not_mem_nil, or_false] at he
    rcases he with rfl | rfl | rfl
    · omega
    · omega
    · exact st _
  | @r1 a b h1 h2 =>
    simp only [List.mem_singleton, forall_eq, Ty.signs] at hr hg
    obtain ⟨b1, b2, _⟩ := big a b a (by omega) (by omega) (by omega)
    refine ⟨fun e he => ?_, by simp only [D.size, sizeAll, D.dep, depAll]; omega⟩
    simp only [List.mem_cons, List.not_mem_nil, or_false] at he
    rcases he with rfl | rfl | rfl
    · omega
    · omega
    · exact st _
  | @c0 a b c h1 h2 h3 =>
    have q1 := hr (.n .ov a b) (by simp)
    have q2 := hr (.n .ov b c) (by simp)
    have z1 := ty (.n .ov a b) q1
    have z2 := ty (.n .ov b c) q2
    simp only [Ty.signs] at q1 q2 hg
    obtain ⟨b1, b2, b3⟩ := big a b c (by omega) (by omega) (by omega)
    refine ⟨fun e he => ?_, by simp only [D.size, sizeAll, D.dep, depAll]; omega⟩
    simp only [List.mem_cons, List.not_mem_nil, or_false] at he
    rcases he with rfl | rfl
    · exact z1
    · exact z2
  | @c1 a b c h1 h2 h3 =>
    have q1 := hr (.n .un c b) (by simp)
    have q2 := hr (.n .un b a) (by simp)
    have z1 := ty (.n .un c b) q1
    have z2 := ty (.n .un b a) q2
    simp only [Ty.signs] at q1 q2 hg
    obtain ⟨b1, b2, b3⟩ := big a b c (by omega) (by omega) (by omega)
    refine ⟨fun e he => ?_, by simp only [D.size, sizeAll, D.dep, depAll]; omega⟩
    simp only [List.mem_cons, List.not_mem_nil, or_false] at he
    rcases he with rfl | rfl
    · exact z1
    · exact z2
  | @d0 a b c h1 h2 h3 =>
    have q1 := hr (.n .ov a b) (by simp)
    have z1 := ty (.n .ov a b) q1
    simp only [Ty.signs] at q1 hg
    obtain ⟨b1, b2, b3⟩ := big a b c (by omega) (by omega) (by omega)
    have z2 := ty c (by omega)
    refine ⟨fun e he => ?_, by simp only [D.size, sizeAll, D.dep, depAll]; omega⟩
    simp only [List.mem_cons, List.not_mem_nil, or_false] at he
    rcases he with rfl | rfl
    · exact z1
    · exact z2
  | @d1 a b c h1 h2 h3 =>
    have q1 := hr (.n .un b a) (by simp)
    have z1 := ty (.n .un b a) q1
    simp only [Ty.signs] at q1 hg
    obtain ⟨b1, b2, b3⟩ := big a b c (by omega) (by omega) (by omega)
    have z2 := ty c (by omega)
    refine ⟨fun e he => ?_, by simp only [D.size, sizeAll, D.dep, depAll]; omega⟩
    simp only [List.mem_cons, List.not_mem_nil, or_false] at he
    rcases he with rfl | rfl
    · exact z1
    · exact z2
  | @s0 a b c h1 h2 h3 =>
    have q1 := hr (.n .ov (.n .un b a) c) (by simp)
    have z1 := ty (.n .ov (.n .un b a) c) q1
    simp only [Ty.signs] at q1 hg
    obtain ⟨b1, b2, b3⟩ := big a b c (by omega) (by omega) (by omega)
    refine ⟨fun e he => ?_, by simp only [D.size, sizeAll, D.dep, depAll]; omega⟩
    simp only [List.mem_cons, List.not_mem_nil, or_false] at he
    rcases he with rfl
    exact z1
  | @s1 a b c h1 h2 h3 =>
    have q1 := hr (.n .un b (.n .ov a c)) (by simp)
    have z1 := ty (.n .un b (.n .ov a c)) q1
    simp only [Ty.signs] at q1 hg
    obtain ⟨b1, b2, b3⟩ := big a b c (by omega) (by omega) (by omega)
    refine ⟨fun e he => ?_, by simp only [D.size, sizeAll, D.dep, depAll]; omega⟩
    simp only [List.mem_cons, List.not_mem_nil, or_false] at he
    rcases he with rfl
    exact z1
  | @p0 a b c h1 h2 h3 =>
    have q1 := hr (.n .ov a (.n .th b c)) (by simp)
    have z1 := ty (.n .ov a (.n .th b c)) q1
    simp only [Ty.signs] at q1 hg
    obtain ⟨b1, b2, b3⟩ := big a b c (by omega) (by omega) (by omega)
    refine ⟨fun e he => ?_, by simp only [D.size, sizeAll, D.dep, depAll]; omega⟩
    simp only [List.mem_cons, List.not_mem_nil, or_false] at he
    rcases he with rfl
    exact z1
  | @p1 a b c h1 h2 h3 =>
    have q1 := hr (.n .un (.n .th b c) a) (by simp)
    have z1 := ty (.n .un (.n .th b c) a) q1
    simp only [Ty.signs] at q1 hg
    obtain ⟨b1, b2, b3⟩ := big a b c (by omega) (by omega) (by omega)
    refine ⟨fun e he => ?_, by simp only [D.size, sizeAll, D.dep, depAll]; omega⟩
    simp only [List.mem_cons, List.not_mem_nil, or_false] at he
    rcases he with rfl
    exact z1
  | @k0 a b c h1 h2 h3 =>
    have q1 := hr (.n .ov (.n .ov a c) b) (by simp)
    have z1 := ty (.n .ov (.n .ov a c) b) q1
    simp only [Ty.signs] at q1 hg
    obtain ⟨b1, b2, b3⟩ := big a b c (by omega) (by omega) (by omega)
    refine ⟨fun e he => ?_, by simp only [D.size, sizeAll, D.dep, depAll]; omega⟩
    simp only [List.mem_cons, List.not_mem_nil, or_false] at he
    rcases he with rfl
    exact z1
  | @k1 a b c h1 h2 h3 =>
    have q1 := hr (.n .un c (.n .un b a)) (by simp)
    have z1 := ty (.n .un c (.n .un b a)) q1
    simp only [Ty.signs] at q1 hg
    obtain ⟨b1, b2, b3⟩ := big a b c (by omega) (by omega) (by omega)
    refine ⟨fun e he => ?_, by simp only [D.size, sizeAll, D.dep, depAll]; omega⟩
    simp only [List.mem_cons, List.not_mem_nil, or_false] at he
    rcases he with rfl
    exact z1
/-! ### the list of cases -/
def GoodC (ok : Addr → Prop) (H : Hp) (v : V) : Prop := ∃ (j : Int) (ds : List D) (d : D) (row : List Ty) (goal : Ty) (p A R : Addr) (g : V) (us ms : List V), v = .ref p ∧ ok p ∧ ok A ∧ ok R ∧ H p = some (.lst [.int j, .ref A, .ref R, g]) ∧ H A = some (.lst us) ∧ DsAt H us ds ∧ H R = some (.lst ms) ∧ Tys H ms row ∧ TyAt H g goal ∧
  Case j ds d row goal ∧ (∀ t ∈ row, t.signs ≤ 11) ∧ goal.signs ≤ 11
theorem GoodC.mono {ok ok' : Addr → Prop} {H H' : Hp} {v : V} (h : GoodC ok H v) (i : ∀ a, ok a → ok' a) (k : ∀ b o, ok b → H b = some o → H' b = some o) (t : TK H H') : GoodC ok' H' v := by
  obtain ⟨j, ds, d, row, goal, p, A, R, g, us, ms, rfl, o1, o2, o3, e1, e2, h1, e3, h2, h3, c⟩ := h
  exact ⟨j, ds, d, row, goal, p, A, R, g, us, ms, rfl, i _ o1, i _ o2, i _ o3, k _ _ o1 e1, k _ _ o2 e2, h1.mono t, k _ _ o3 e3, h2.mono t, h3.mono t, c⟩
theorem GoodC.same {ok : Addr → Prop} {H H' : Hp} {v : V} (h : GoodC ok H v) (s : Same H H') : GoodC ok H' v := h.mono (fun _ h => h) (fun b o _ e => s b o e) (TK.of_same s)
theorem GoodC.imp {ok ok' : Addr → Prop} {H : Hp} {v : V} (h : GoodC ok H v) (i : ∀ a, ok a → ok' a) : GoodC ok' H v := h.mono i (fun _ _ _ e => e) (TK.refl H)
theorem GoodC.upd {H : Hp} {v : V} {L : Addr} {xs ys : List V} (h : GoodC (· ≠ L) H v) (e : H L = some (.lst xs)) : GoodC (· ≠ L) (upd H L (.lst ys)) v := h.mono (fun _ h => h) (fun b o n q => by rw [upd_ne n]; exact q) (TK.upd_lst e)
/-- an expression that comes to a case, in new objects -/
def YC (t : TE) (σ : L2.St) (H0 : Hp) : Prop := ∀ H, Same H0 H → ∀ Q : VK, (∀ v H', Same H H' → GoodC (fun x => H x = none) H' v → Q v H') → t σ H Q
theorem yc_mk {ta tr : TA} {tg : TE} {σ : L2.St} {H0 : Hp} {j : Int} {ds : List D} {d : D} {row : List Ty} {goal : Ty} (c : Case j ds d row goal) (h1 : YdA ta σ H0 ds) (h2 : YdA tr σ H0 (row.map Ty.d)) (h3 : Yd tg σ H0 goal.d) (l1 : ds.length ≤ 100) (l2 : (row.map Ty.d).length ≤ 100) (b1 : ∀ t ∈ row, t.signs ≤ 11) (b2 : goal.signs ≤ 11) : YC (tLst (tCons (tC (.int j)) (tCons (tLst ta) (tCons (tLst tr) (tCons tg tNil))))) σ H0 := fun H s Q q => by
  obtain ⟨wr, wg⟩ := c.woks
  have q' : tLst ta σ H (fun A H1 => tLst tr σ H1 fun R H2 => tg σ H2 fun g H3 => [V.int j, A, R, g].length ≤ sizeLine ∧ ∀ p, H3 p = none → Q (.ref p) (upd H3 p (.lst [.int j, A, R, g]))) := ?_
  · exact q'
  refine yda_lst h1 s l1 fun A us H1 s1 nA eA hus => yda_lst h2 (s.trans s1) l2 fun R ms H2 s2 nR eR hms => h3 H2 ((s.trans s1).trans s2) _ fun g H3 s3 hg => ⟨by show 4 ≤ sizeLine; rw [sizeLine_eq]; omega, fun p np => ?_⟩
  have sp := same_upd (o := .lst [.int j, .ref A, .ref R, g]) np
  have s12 := s1.trans s2
  have s13 := s12.trans s3
  refine q _ _ (s13.trans sp) ⟨j, ds, d, row, goal, p, A, R, g, us, ms, rfl, s13.free np, nA, s1.free nR, upd_same, ((s2.trans s3).trans sp) _ _ eA, hus.mono (TK.of_same ((s2.trans s3).trans sp)), (s3.trans sp) _ _ eR, (tys_of hms wr).mono (TK.of_same (s3.trans sp)), (hg.ty (goal.ty_d wg)).mono (TK.of_same sp), c, b1, b2⟩
theorem yc_lst2 {t u : TE} {σ : L2.St} {H0 H : Hp} {Q : VK} (h : YC t σ H0) (h' : YC u σ H0) (s : Same H0 H) (q : ∀ (L : Addr) v w H', Same H H' → H L = none → H' L = some (.lst [v, w]) → GoodC (fun x => H x = none ∧ x ≠ L) H' v → GoodC (fun x => H x = none ∧ x ≠ L) H' w → Q (.ref L) H') : tLst (tCons t (tCons u tNil)) σ H Q :=
  h H s _ fun v H1 s1 gv => h' H1 (s.trans s1) _ fun w H2 s2 gw => ⟨by show 2 ≤ sizeLine; rw [sizeLine_eq]; omega, fun L nL => by
    have sL := same_upd (o := .lst [v, w]) nL
    have neL : ∀ {x : Addr} {o : HO}, H2 x = some o → x ≠ L := fun e z => by rw [z, nL] at e; cases e
    have up : ∀ {y : V} {ok : Addr → Prop}, GoodC ok H2 y → GoodC (fun x => ok x ∧ x ≠ L) (upd H2 L (.lst [v, w])) y := fun {y ok} g => by
      obtain ⟨j, ds, d, row, goal, p, A, R, g0, us, ms, rfl, o1, o2, o3, e1, e2, h1, e3, h2, h3, c⟩ := g
      exact ⟨j, ds, d, row, goal, p, A, R, g0, us, ms, rfl, ⟨o1, neL e1⟩, ⟨o2, neL e2⟩, ⟨o3, neL e3⟩, sL _ _ e1, sL _ _ e2, h1.mono (TK.of_same sL), sL _ _ e3, h2.mono (TK.of_same sL), h3.mono (TK.of_same sL), c⟩
    exact q L v w _ ((s1.trans s2).trans sL) ((s1.trans s2).free nL) upd_same ((up (gv.same s2))) ((up gw).imp fun a h => ⟨s1.free h.1, h.2⟩)⟩
theorem yda_par {ta : TA} {i j : Nat} {u : TS} {D0 : Ends} {σ : L2.St} {H H0 : Hp} {d e : D} (y : YdA ta σ H0 [d, e]) (s : Same H0 H) (q : ∀ v w H', Same H H' → DAt H' v d → DAt H' w e → u D0 ((σ.set i (some v)).set j (some w)) H') : tSeq (tPar i j ta) u D0 σ H := y H s _ fun vs H' s' hvs => by
  obtain ⟨v, w, rfl, a, b⟩ := dsAt2 hvs
  exact ⟨v, w, rfl, q v w H' s' a b⟩
section
variable {P : Program} {w : World} {K : Frag} {mg : Str → Option Value} {base : Heap}
theorem yc_app {to t : TE} {u : TS} {D0 : Ends} {σ : L2.St} {H H0 : Hp} {L : Addr} {vs : List V} (h : YC t σ H0) (s : Same H0 H) (ho : σ[3]? = some (some (.ref L))) (eto : to = tVar 3) (e : H L = some (.lst vs)) (lv : vs.length ≤ 100) (q : ∀ v H1, Same H H1 → H1 L = some (.lst vs) → GoodC (· ≠ L) H1 v → u D0 σ (upd H1 L (.lst (vs ++ [v])))) : tSeq (tDrop (tBM K "list" rAppend to (tCons t tNil))) u D0 σ H := by
  subst eto
  refine ⟨_, ho, .inl ⟨rfl, _, SqL.of e⟩, h H s _ fun v H1 s1 g => ?_⟩
  exact ⟨L, vs, v, rfl, rfl, s1 _ _ e, by rw [sizeLine_eq]; omega, q v H1 s1 (s1 _ _ e) (g.imp fun a ha z => by rw [z, e] at ha; cases ha)⟩
end
end S4

namespace S4
open PySem PySem.Spec PyProof.Rows L2 LamX KT
open PySem.W (Frag)
section
variable {P : Program} {w : World} {K : Frag} {mg : Str → Option Value} {base : Heap}
theorem yc_set2 {t u : TE} {i : Nat} {w0 : TS} {D0 : Ends} {σ : L2.St} {H0 H : Hp} (h : YC t σ H0) (h' : YC u σ H0) (s : Same H0 H) (q : ∀ (L : Addr) v w H', Same H H' → H L = none → H' L = some (.lst [v, w]) → GoodC (fun x => H x = none ∧ x ≠ L) H' v → GoodC (fun x => H x = none ∧ x ≠ L) H' w → w0 D0 (σ.set i (some (.ref L))) H') : tSeq (tAsg (tLst (tCons t (tCons u tNil))) (gName i)) w0 D0 σ H := by
  have z := yc_lst2 (Q := fun v H' => w0 D0 (σ.set i (some v)) H') h h' s q
  exact z
theorem yc_cat {t u : TE} {σ : L2.St} {H0 H : Hp} {Q : VK} {L : Addr} {vs : List V} (h : YC t σ H0) (h' : YC u σ H0) (s : Same H0 H) (e3 : σ[3]? = some (some (.ref L))) (e : H L = some (.lst vs)) (lv : vs.length ≤ 100) (g : ∀ v ∈ vs, GoodC (fun _ => True) H v) (q : ∀ (M : Addr) v w H', Same H H' → H' M = some (.lst (vs ++ [v, w])) → (∀ y ∈ vs ++ [v, w], GoodC (fun _ => True) H' y) → Q (.ref M) H') : tOp rCat (tVar 3) (tLst (tCons t (tCons u tNil))) σ H Q := by
  refine ⟨_, e3, ?_⟩
  refine yc_lst2 h h' s fun N v w H1 s1 nN eN gv gw => ⟨L, N, vs, [v, w], rfl, rfl, s1 _ _ e, eN, by rw [sizeLine_eq]; simp only [List.length_cons, List.length_nil]; omega, fun M nM => ?_⟩
  have sM := same_upd (o := .lst (vs ++ [v, w])) nM
  refine q M v w _ (s1.trans sM) upd_same fun y hy => ?_
  rcases List.mem_append.mp hy with hy | hy
  · exact (g y hy).same (s1.trans sM)
  · simp only [List.mem_cons, List.not_mem_nil, or_false] at hy
    rcases hy with rfl | rfl
    · exact (gv.imp fun _ _ => trivial).same sM
    · exact (gw.imp fun _ _ => trivial).same sM
theorem yc_catSet {t u : TE} {w0 : TS} {D0 : Ends} {σ : L2.St} {H0 H : Hp} {L : Addr} {vs : List V} (h : YC t σ H0) (h' : YC u σ H0) (s : Same H0 H) (e3 : σ[3]? = some (some (.ref L))) (e : H L = some (.lst vs)) (lv : vs.length ≤ 100) (g : ∀ v ∈ vs, GoodC (fun _ => True) H v) (q : ∀ (M : Addr) v w H', Same H H' → H' M = some (.lst (vs ++ [v, w])) → (∀ y ∈ vs ++ [v, w], GoodC (fun _ => True) H' y) → w0 D0 (σ.set 3 (some (.ref M))) H') : tSeq (tAsg (tOp rCat (tVar 3) (tLst (tCons t (tCons u tNil)))) (gName 3)) w0 D0 σ H := by
  have z := yc_cat (Q := fun v H' => w0 D0 (σ.set 3 (some v)) H') h h' s e3 e lv g q
  exact z
theorem yc_catRet {t u : TE} {D0 : Ends} {σ : L2.St} {H0 H : Hp} {L : Addr} {vs : List V} (h : YC t σ H0) (h' : YC u σ H0) (s : Same H0 H) (e3 : σ[3]? = some (some (.ref L))) (e : H L = some (.lst vs)) (lv : vs.length ≤ 100) (g : ∀ v ∈ vs, GoodC (fun _ => True) H v) (q : ∀ (M : Addr) v w H', Same H H' → H' M = some (.lst (vs ++ [v, w])) → (∀ y ∈ vs ++ [v, w], GoodC (fun _ => True) H' y) → D0.rt (.ref M) H') : tRet (tOp rCat (tVar 3) (tLst (tCons t (tCons u tNil)))) D0 σ H := by
  have z := yc_cat (Q := D0.rt) h h' s e3 e lv g q
  exact z
def spCases : Sp := fun vs H Q _ => ∃ va vb vc a b c, vs = [va, vb, vc] ∧ TyAt H va a ∧ TyAt H vb b ∧ TyAt H vc c ∧ a.signs ≤ 2 ∧ b.signs ≤ 2 ∧ c.signs ≤ 2 ∧ ∀ (L : Addr) (us : List V) H', Same H H' → H' L = some (.lst us) → us.length ≤ 20 → (∀ v ∈ us, GoodC (fun _ => True) H' v) → Q (.ref L) H'
theorem ok_cases {f : Addr} {fd : FuncData} (T : Top K mg "_law_cases" sLCases pLCases f fd) : FnOk P w K mg base CX0 1 f fd pLCases spCases := by
  refine T.F.ok scLCases (fun vs H Q E h => ?_) (fun cdv A outer s H vs Q E hr h => ?_)
  · obtain ⟨_, _, _, _, _, _, rfl, _⟩ := h
    rfl
  · obtain ⟨va, vb, vc, a, b, c, rfl, ha, hb, hc, sa, sb, sc, q⟩ := h
    refine ⟨_, (pss_cons (ps_set (i := 3) scLCases.nd rfl (Or.inl rfl) (pe_lst (pa_cons (pe_lst (pa_cons pe_int (pa_cons (pe_lst (pa_cons (pv 0) (pa_cons (pv 1) (pa_cons pe_str pa_nil)))) (pa_cons (pe_lst (pa_cons (pv 0) pa_nil)) (pa_cons (pe_tup (pa_cons pe_str (pa_cons (pv 1) (pa_cons (pe_tup (pa_cons pe_str (pa_cons (pv 0) (pa_cons (pv 1) pa_nil)))) pa_nil)))) pa_nil))))) (pa_cons (pe_lst (pa_cons pe_int (pa_cons (pe_lst (pa_cons (pv 0) (pa_cons (pv 1) (pa_cons pe_str pa_nil)))) (pa_cons (pe_lst (pa_cons (pv 0) pa_nil)) (pa_cons (pe_tup (pa_cons pe_str (pa_cons (pe_tup (pa_cons pe_str (pa_cons (pv 1) (pa_cons (pv 0) pa_nil)))) (pa_cons (pv 1) pa_nil)))) pa_nil))))) pa_nil))))
      (pss_cons (ps_expr (pe_bm PySem.F.plainAttrs_list PySem.F.slot_list_append PySem.F.type_list_append mt_append (pv 3) (pa_cons (pe_lst (pa_cons pe_int (pa_cons (pe_lst (pa_cons (pe_tup (pa_cons pe_str (pa_cons (pv 0) (pa_cons (pv 1) pa_nil)))) (pa_cons (pe_tup (pa_cons pe_str (pa_cons (pv 1) (pa_cons (pv 2) pa_nil)))) pa_nil))) (pa_cons (pe_lst (pa_cons (pe_tup (pa_cons pe_str (pa_cons (pv 0) (pa_cons (pv 1) pa_nil)))) (pa_cons (pe_tup (pa_cons pe_str (pa_cons (pv 1) (pa_cons (pv 2) pa_nil)))) pa_nil))) (pa_cons (pe_tup (pa_cons pe_str (pa_cons (pv 0) (pa_cons (pv 2) pa_nil)))) pa_nil))))) pa_nil)))
      (pss_cons (ps_expr (pe_bm PySem.F.plainAttrs_list PySem.F.slot_list_append PySem.F.type_list_append mt_append (pv 3) (pa_cons (pe_lst (pa_cons pe_int (pa_cons (pe_lst (pa_cons (pe_tup (pa_cons pe_str (pa_cons (pv 2) (pa_cons (pv 1) pa_nil)))) (pa_cons (pe_tup (pa_cons pe_str (pa_cons (pv 1) (pa_cons (pv 0) pa_nil)))) pa_nil))) (pa_cons (pe_lst (pa_cons (pe_tup (pa_cons pe_str (pa_cons (pv 2) (pa_cons (pv 1) pa_nil)))) (pa_cons (pe_tup (pa_cons pe_str (pa_cons (pv 1) (pa_cons (pv 0) pa_nil)))) pa_nil))) (pa_cons (pe_tup (pa_cons pe_str (pa_cons (pv 2) (pa_cons (pv 0) pa_nil)))) pa_nil))))) pa_nil)))
      (pss_cons (ps_expr (pe_bm PySem.F.plainAttrs_list PySem.F.slot_list_append PySem.F.type_list_append mt_append (pv 3) (pa_cons (pe_lst (pa_cons pe_int (pa_cons (pe_lst (pa_cons (pe_tup (pa_cons pe_str (pa_cons (pv 0) (pa_cons (pv 1) pa_nil)))) (pa_cons (pv 2) pa_nil))) (pa_cons (pe_lst (pa_cons (pe_tup (pa_cons pe_str (pa_cons (pv 0) (pa_cons (pv 1) pa_nil)))) pa_nil)) (pa_cons (pe_tup (pa_cons pe_str (pa_cons (pe_tup (pa_cons pe_str (pa_cons (pv 0) (pa_cons (pv 2) pa_nil)))) (pa_cons (pe_tup (pa_cons pe_str (pa_cons (pv 1) (pa_cons (pv 2) pa_nil)))) pa_nil)))) pa_nil))))) pa_nil)))
      (pss_cons (ps_expr (pe_bm PySem.F.plainAttrs_list PySem.F.slot_list_append PySem.F.type_list_append mt_append (pv 3) (pa_cons (pe_lst (pa_cons pe_int (pa_cons (pe_lst (pa_cons (pe_tup (pa_cons pe_str (pa_cons (pv 1) (pa_cons (pv 0) pa_nil)))) (pa_cons (pv 2) pa_nil))) (pa_cons (pe_lst (pa_cons (pe_tup (pa_cons pe_str (pa_cons (pv 1) (pa_cons (pv 0) pa_nil)))) pa_nil)) (pa_cons (pe_tup (pa_cons pe_str (pa_cons (pe_tup (pa_cons pe_str (pa_cons (pv 2) (pa_cons (pv 1) pa_nil)))) (pa_cons (pe_tup (pa_cons pe_str (pa_cons (pv 2) (pa_cons (pv 0) pa_nil)))) pa_nil)))) pa_nil))))) pa_nil)))
      (pss_cons (ps_par (i := 4) (j := 5) rfl scLCases.nd rfl rfl (by decide) rfl rfl (pa_cons (pe_tup (pa_cons pe_str (pa_cons (pe_tup (pa_cons pe_str (pa_cons (pv 1) (pa_cons (pv 0) pa_nil)))) (pa_cons (pv 2) pa_nil)))) (pa_cons (pe_tup (pa_cons pe_str (pa_cons (pv 1) (pa_cons (pe_tup (pa_cons pe_str (pa_cons (pv 0) (pa_cons (pv 2) pa_nil)))) pa_nil)))) pa_nil)) (by rfl))
      (pss_cons (ps_set (i := 3) scLCases.nd rfl (Or.inl rfl) (pe_op op_cat (pv 3) (pe_lst (pa_cons (pe_lst (pa_cons pe_int (pa_cons (pe_lst (pa_cons (pv 4) pa_nil)) (pa_cons (pe_lst (pa_cons (pv 4) pa_nil)) (pa_cons (pv 5) pa_nil))))) (pa_cons (pe_lst (pa_cons pe_int (pa_cons (pe_lst (pa_cons (pv 5) pa_nil)) (pa_cons (pe_lst (pa_cons (pv 5) pa_nil)) (pa_cons (pv 4) pa_nil))))) pa_nil)))))
      (pss_cons (ps_par (i := 6) (j := 7) rfl scLCases.nd rfl rfl (by decide) rfl rfl (pa_cons (pe_tup (pa_cons pe_str (pa_cons (pv 0) (pa_cons (pe_tup (pa_cons pe_str (pa_cons (pv 1) (pa_cons (pv 2) pa_nil)))) pa_nil)))) (pa_cons (pe_tup (pa_cons pe_str (pa_cons (pe_tup (pa_cons pe_str (pa_cons (pv 0) (pa_cons (pv 2) pa_nil)))) (pa_cons (pv 1) pa_nil)))) pa_nil)) (by rfl))
      (pss_cons (ps_set (i := 3) scLCases.nd rfl (Or.inl rfl) (pe_op op_cat (pv 3) (pe_lst (pa_cons (pe_lst (pa_cons pe_int (pa_cons (pe_lst (pa_cons (pv 6) pa_nil)) (pa_cons (pe_lst (pa_cons (pv 6) pa_nil)) (pa_cons (pv 7) pa_nil))))) (pa_cons (pe_lst (pa_cons pe_int (pa_cons (pe_lst (pa_cons (pv 7) pa_nil)) (pa_cons (pe_lst (pa_cons (pv 7) pa_nil)) (pa_cons (pv 6) pa_nil))))) pa_nil)))))
      (pss_cons (ps_par (i := 6) (j := 7) rfl scLCases.nd rfl rfl (by decide) rfl rfl (pa_cons (pe_tup (pa_cons pe_str (pa_cons (pe_tup (pa_cons pe_str (pa_cons (pv 1) (pa_cons (pv 2) pa_nil)))) (pa_cons (pv 0) pa_nil)))) (pa_cons (pe_tup (pa_cons pe_str (pa_cons (pv 2) (pa_cons (pe_tup (pa_cons pe_str (pa_cons (pv 1) (pa_cons (pv 0) pa_nil)))) pa_nil)))) pa_nil)) (by rfl))
      (pss_one (ps_ret (pe_op op_cat (pv 3) (pe_lst (pa_cons (pe_lst (pa_cons pe_int (pa_cons (pe_lst (pa_cons (pv 6) pa_nil)) (pa_cons (pe_lst (pa_cons (pv 6) pa_nil)) (pa_cons (pv 7) pa_nil))))) (pa_cons (pe_lst (pa_cons pe_int (pa_cons (pe_lst (pa_cons (pv 7) pa_nil)) (pa_cons (pe_lst (pa_cons (pv 7) pa_nil)) (pa_cons (pv 6) pa_nil))))) pa_nil)))))))))))))))), ?_⟩
    have wa := ha.wok
    have wb := hb.wok
    have wc := hc.wok
    have ya : ∀ {σ : L2.St} {H' : Hp}, σ[0]? = some (some va) → TK H H' → Yd (tVar 0) σ H' a.d := fun e t => yd_var e (ha.mono t).d
    have yb : ∀ {σ : L2.St} {H' : Hp}, σ[1]? = some (some vb) → TK H H' → Yd (tVar 1) σ H' b.d := fun e t => yd_var e (hb.mono t).d
    have yc : ∀ {σ : L2.St} {H' : Hp}, σ[2]? = some (some vc) → TK H H' → Yd (tVar 2) σ H' c.d := fun e t => yd_var e (hc.mono t).d
    have ys : ∀ {σ : L2.St} {H' : Hp} {z : Str}, TxtOk z → Yd (tC (.str z)) σ H' (.s z) := fun h => yd_str h
    refine yc_set2 (yc_mk (.r0 wa wb) (yda3 (ya (by rfl) (TK.refl H)) (yb (by rfl) (TK.refl H)) (yd_str tx_over)) (yda1 (ya (by rfl) (TK.refl H))) (yt3 (d := Ty.d b) (e := Ty.d (Ty.n .un a b)) tx_over (yb (by rfl) (TK.refl H)) (yt3 (d := Ty.d a) (e := Ty.d b) tx_under (ya (by rfl) (TK.refl H)) (yb (by rfl) (TK.refl H)))) (by simp) (by simp) (by simp [Ty.signs] <;> omega) (by simp [Ty.signs] <;> omega)) (yc_mk (.r1 wa wb) (yda3 (ya (by rfl) (TK.refl H)) (yb (by rfl) (TK.refl H)) (yd_str tx_under)) (yda1 (ya (by rfl) (TK.refl H))) (yt3 (d := Ty.d (Ty.n .ov b a)) (e := Ty.d b) tx_under (yt3 (d := Ty.d b) (e := Ty.d a) tx_over (yb (by rfl) (TK.refl H)) (ya (by rfl) (TK.refl H))) (yb (by rfl) (TK.refl H))) (by simp) (by simp) (by simp [Ty.signs] <;> omega) (by simp [Ty.signs] <;> omega)) (Same.refl H) fun L v0 v1 H1 s1 nL eL g0 g1 => ?_
    have g0 := g0.imp (ok' := (· ≠ L)) fun _ h => h.2
    have g1 := g1.imp (ok' := (· ≠ L)) fun _ h => h.2
    have t1 := TK.of_same s1
    have sH1 := s1
    refine yc_app (vs := [v0, v1]) (yc_mk (.c0 wa wb wc) (yda2 (yt3 (d := Ty.d a) (e := Ty.d b) tx_over (ya (by rfl) t1) (yb (by rfl) t1)) (yt3 (d := Ty.d b) (e := Ty.d c) tx_over (yb (by rfl) t1) (yc (by rfl) t1))) (yda2 (yt3 (d := Ty.d a) (e := Ty.d b) tx_over (ya (by rfl) t1) (yb (by rfl) t1)) (yt3 (d := Ty.d b) (e := Ty.d c) tx_over (yb (by rfl) t1) (yc (by rfl) t1))) (yt3 (d := Ty.d a) (e := Ty.d c) tx_over (ya (by rfl) t1) (yc (by rfl) t1)) (by simp) (by simp) (by simp [Ty.signs] <;> omega) (by simp [Ty.signs] <;> omega)) (Same.refl H1) (by rfl) rfl eL (by simp) fun v2 X2 x2 f2 g2 => ?_
    have t2 : TK H (upd X2 L (.lst ([v0, v1] ++ [v2]))) := (TK.trans t1 (TK.of_same x2)).trans (TK.upd_lst f2)
    have sH2 : Same H (upd X2 L (.lst ([v0, v1] ++ [v2]))) := same_over (sH1.trans x2) nL
    have g0 := (g0.same x2).upd (ys := [v0, v1] ++ [v2]) f2
    have g1 := (g1.same x2).upd (ys := [v0, v1] ++ [v2]) f2
    have g2 := g2.upd (ys := [v0, v1] ++ [v2]) f2
    have eL2 : upd X2 L (.lst ([v0, v1] ++ [v2])) L = some (.lst [v0, v1, v2]) := upd_same
    generalize upd X2 L (.lst ([v0, v1] ++ [v2])) = H2 at *
    refine yc_app (vs := [v0, v1, v2]) (yc_mk (.c1 wa wb wc) (yda2 (yt3 (d := Ty.d c) (e := Ty.d b) tx_under (yc (by rfl) t2) (yb (by rfl) t2)) (yt3 (d := Ty.d b) (e := Ty.d a) tx_under (yb (by rfl) t2) (ya (by rfl) t2))) (yda2 (yt3 (d := Ty.d c) (e := Ty.d b) tx_under (yc (by rfl) t2) (yb (by rfl) t2)) (yt3 (d := Ty.d b) (e := Ty.d a) tx_under (yb (by rfl) t2) (ya (by rfl) t2))) (yt3 (d := Ty.d c) (e := Ty.d a) tx_under (yc (by rfl) t2) (ya (by rfl) t2)) (by simp) (by simp) (by simp [Ty.signs] <;> omega) (by simp [Ty.signs] <;> omega)) (Same.refl H2) (by rfl) rfl eL2 (by simp) fun v3 X3 x3 f3 g3 => ?_
    have t3 : TK H (upd X3 L (.lst ([v0, v1, v2] ++ [v3]))) := (TK.trans t2 (TK.of_same x3)).trans (TK.upd_lst f3)
    have sH3 : Same H (upd X3 L (.lst ([v0, v1, v2] ++ [v3]))) := same_over (sH2.trans x3) nL
    have g0 := (g0.same x3).upd (ys := [v0, v1, v2] ++ [v3]) f3
    have g1 := (g1.same x3).upd (ys := [v0, v1, v2] ++ [v3]) f3
    have g2 := (g2.same x3).upd (ys := [v0, v1, v2] ++ [v3]) f3
    have g3 := g3.upd (ys := [v0, v1, v2] ++ [v3]) f3
    have eL3 : upd X3 L (.lst ([v0, v1, v2] ++ [v3])) L = some (.lst [v0, v1, v2, v3]) := upd_same
    generalize upd X3 L (.lst ([v0, v1, v2] ++ [v3])) = H3 at *
    refine yc_app (vs := [v0, v1, v2, v3]) (yc_mk (.d0 wa wb wc) (yda2 (yt3 (d := Ty.d a) (e := Ty.d b) tx_over (ya (by rfl) t3) (yb (by rfl) t3)) (yc (by rfl) t3)) (yda1 (yt3 (d := Ty.d a) (e := Ty.d b) tx_over (ya (by rfl) t3) (yb (by rfl) t3))) (yt3 (d := Ty.d (Ty.n .ov a c)) (e := Ty.d (Ty.n .ov b c)) tx_over (yt3 (d := Ty.d a) (e := Ty.d c) tx_over (ya (by rfl) t3) (yc (by rfl) t3)) (yt3 (d := Ty.d b) (e := Ty.d c) tx_over (yb (by rfl) t3) (yc (by rfl) t3))) (by simp) (by simp) (by simp [Ty.signs] <;> omega) (by simp [Ty.signs] <;> omega)) (Same.refl H3) (by rfl) rfl eL3 (by simp) fun v4 X4 x4 f4 g4 => ?_
    have t4 : TK H (upd X4 L (.lst ([v0, v1, v2, v3] ++ [v4]))) := (TK.trans t3 (TK.of_same x4)).trans (TK.upd_lst f4)
    have sH4 : Same H (upd X4 L (.lst ([v0, v1, v2, v3] ++ [v4]))) := same_over (sH3.trans x4) nL
    have g0 := (g0.same x4).upd (ys := [v0, v1, v2, v3] ++ [v4]) f4
    have g1 := (g1.same x4).upd (ys := [v0, v1, v2, v3] ++ [v4]) f4
    have g2 := (g2.same x4).upd (ys := [v0, v1, v2, v3] ++ [v4]) f4
    have g3 := (g3.same x4).upd (ys := [v0, v1, v2, v3] ++ [v4]) f4
    have g4 := g4.upd (ys := [v0, v1, v2, v3] ++ [v4]) f4
    have eL4 : upd X4 L (.lst ([v0, v1, v2, v3] ++ [v4])) L = some (.lst [v0, v1, v2, v3, v4]) := upd_same
    generalize upd X4 L (.lst ([v0, v1, v2, v3] ++ [v4])) = H4 at *
    refine yc_app (vs := [v0, v1, v2, v3, v4]) (yc_mk (.d1 wa wb wc) (yda2 (yt3 (d := Ty.d b) (e := Ty.d a) tx_under (yb (by rfl) t4) (ya (by rfl) t4)) (yc (by rfl) t4)) (yda1 (yt3 (d := Ty.d b) (e := Ty.d a) tx_under (yb (by rfl) t4) (ya (by rfl) t4))) (yt3 (d := Ty.d (Ty.n .un c b)) (e := Ty.d (Ty.n .un c a)) tx_under (yt3 (d := Ty.d c) (e := Ty.d b) tx_under (yc (by rfl) t4) (yb (by rfl) t4)) (yt3 (d := Ty.d c) (e := Ty.d a) tx_under (yc (by rfl) t4) (ya (by rfl) t4))) (by simp) (by simp) (by simp [Ty.signs] <;> omega) (by simp [Ty.signs] <;> omega)) (Same.refl H4) (by rfl) rfl eL4 (by simp) fun v5 X5 x5 f5 g5 => ?_
    have t5 : TK H (upd X5 L (.lst ([v0, v1, v2, v3, v4] ++ [v5]))) := (TK.trans t4 (TK.of_same x5)).trans (TK.upd_lst f5)
    have sH5 : Same H (upd X5 L (.lst ([v0, v1, v2, v3, v4] ++ [v5]))) := same_over (sH4.trans x5) nL
    have g0 := (g0.same x5).upd (ys := [v0, v1, v2, v3, v4] ++ [v5]) f5
    have g1 := (g1.same x5).upd (ys := [v0, v1, v2, v3, v4] ++ [v5]) f5
    have g2 := (g2.same x5).upd (ys := [v0, v1, v2, v3, v4] ++ [v5]) f5
    have g3 := (g3.same x5).upd (ys := [v0, v1, v2, v3, v4] ++ [v5]) f5
    have g4 := (g4.same x5).upd (ys := [v0, v1, v2, v3, v4] ++ [v5]) f5
    have g5 := g5.upd (ys := [v0, v1, v2, v3, v4] ++ [v5]) f5
    have eL5 : upd X5 L (.lst ([v0, v1, v2, v3, v4] ++ [v5])) L = some (.lst [v0, v1, v2, v3, v4, v5]) := upd_same
    generalize upd X5 L (.lst ([v0, v1, v2, v3, v4] ++ [v5])) = H5 at *
    have gall : ∀ v ∈ [v0, v1, v2, v3, v4, v5], GoodC (fun _ => True) H5 v := fun v hv => by
      simp only [List.mem_cons, List.not_mem_nil, or_false] at hv
      rcases hv with rfl | rfl | rfl | rfl | rfl | rfl
      · exact g0.imp fun _ _ => trivial
      · exact g1.imp fun _ _ => trivial
      · exact g2.imp fun _ _ => trivial
      · exact g3.imp fun _ _ => trivial
      · exact g4.imp fun _ _ => trivial
      · exact g5.imp fun _ _ => trivial
    refine yda_par (yda2 (yt3 (d := Ty.d (Ty.n .un b a)) (e := Ty.d c) tx_over (yt3 (d := Ty.d b) (e := Ty.d a) tx_under (yb (by rfl) t5) (ya (by rfl) t5)) (yc (by rfl) t5)) (yt3 (d := Ty.d b) (e := Ty.d (Ty.n .ov a c)) tx_under (yb (by rfl) t5) (yt3 (d := Ty.d a) (e := Ty.d c) tx_over (ya (by rfl) t5) (yc (by rfl) t5)))) (Same.refl H5) fun vl vr Ha xa dvl dvr => ?_
    have ta := TK.trans t5 (TK.of_same xa)
    have sHa := sH5.trans xa
    refine yc_catSet (L := L) (vs := [v0, v1, v2, v3, v4, v5]) (yc_mk (.s0 wa wb wc) (yda1 (yd_var (i := 4) (d := Ty.d (Ty.n .ov (Ty.n .un b a) c)) (by rfl) dvl)) (yda1 (yd_var (i := 4) (d := Ty.d (Ty.n .ov (Ty.n .un b a) c)) (by rfl) dvl)) (yd_var (i := 5) (d := Ty.d (Ty.n .un b (Ty.n .ov a c))) (by rfl) dvr) (by simp) (by simp) (by simp [Ty.signs] <;> omega) (by simp [Ty.signs] <;> omega)) (yc_mk (.s1 wa wb wc) (yda1 (yd_var (i := 5) (d := Ty.d (Ty.n .un b (Ty.n .ov a c))) (by rfl) dvr)) (yda1 (yd_var (i := 5) (d := Ty.d (Ty.n .un b (Ty.n .ov a c))) (by rfl) dvr)) (yd_var (i := 4) (d := Ty.d (Ty.n .ov (Ty.n .un b a) c)) (by rfl) dvl) (by simp) (by simp) (by simp [Ty.signs] <;> omega) (by simp [Ty.signs] <;> omega)) (Same.refl Ha) (by rfl) (xa _ _ eL5) (by simp) (fun v hv => (gall v hv).same xa) fun M v6 v7 Hb xb eb gb => ?_
    have tb := ta.trans (TK.of_same xb)
    have sHb := sHa.trans xb
    refine yda_par (yda2 (yt3 (d := Ty.d a) (e := Ty.d (Ty.n .th b c)) tx_over (ya (by rfl) tb) (yt3 (d := Ty.d b) (e := Ty.d c) tx_then (yb (by rfl) tb) (yc (by rfl) tb))) (yt3 (d := Ty.d (Ty.n .ov a c)) (e := Ty.d b) tx_over (yt3 (d := Ty.d a) (e := Ty.d c) tx_over (ya (by rfl) tb) (yc (by rfl) tb)) (yb (by rfl) tb))) (Same.refl Hb) fun vo vp Hc xc dvo dvp => ?_
    have tc := tb.trans (TK.of_same xc)
    have sHc := sHb.trans xc
    refine yc_catSet (L := M) (vs := [v0, v1, v2, v3, v4, v5, v6, v7]) (yc_mk (.p0 wa wb wc) (yda1 (yd_var (i := 6) (d := Ty.d (Ty.n .ov a (Ty.n .th b c))) (by rfl) dvo)) (yda1 (yd_var (i := 6) (d := Ty.d (Ty.n .ov a (Ty.n .th b c))) (by rfl) dvo)) (yd_var (i := 7) (d := Ty.d (Ty.n .ov (Ty.n .ov a c) b)) (by rfl) dvp) (by simp) (by simp) (by simp [Ty.signs] <;> omega) (by simp [Ty.signs] <;> omega)) (yc_mk (.k0 wa wb wc) (yda1 (yd_var (i := 7) (d := Ty.d (Ty.n .ov (Ty.n .ov a c) b)) (by rfl) dvp)) (yda1 (yd_var (i := 7) (d := Ty.d (Ty.n .ov (Ty.n .ov a c) b)) (by rfl) dvp)) (yd_var (i := 6) (d := Ty.d (Ty.n .ov a (Ty.n .th b c))) (by rfl) dvo) (by simp) (by simp) (by simp [Ty.signs] <;> omega) (by simp [Ty.signs] <;> omega)) (Same.refl Hc) (by rfl) (xc _ _ eb) (by simp) (fun v hv => (gb v hv).same xc) fun N v8 v9 Hd xd ed gd => ?_
    have td := tc.trans (TK.of_same xd)
    have sHd := sHc.trans xd
    refine yda_par (yda2 (yt3 (d := Ty.d (Ty.n .th b c)) (e := Ty.d a) tx_under (yt3 (d := Ty.d b) (e := Ty.d c) tx_then (yb (by rfl) td) (yc (by rfl) td)) (ya (by rfl) td)) (yt3 (d := Ty.d c) (e := Ty.d (Ty.n .un b a)) tx_under (yc (by rfl) td) (yt3 (d := Ty.d b) (e := Ty.d a) tx_under (yb (by rfl) td) (ya (by rfl) td)))) (Same.refl Hd) fun vq vs He xe dvq dvs => ?_
    have te := td.trans (TK.of_same xe)
    have sHe := sHd.trans xe
    exact yc_catRet (L := N) (vs := [v0, v1, v2, v3, v4, v5, v6, v7, v8, v9]) (yc_mk (.p1 wa wb wc) (yda1 (yd_var (i := 6) (d := Ty.d (Ty.n .un (Ty.n .th b c) a)) (by rfl) dvq)) (yda1 (yd_var (i := 6) (d := Ty.d (Ty.n .un (Ty.n .th b c) a)) (by rfl) dvq)) (yd_var (i := 7) (d := Ty.d (Ty.n .un c (Ty.n .un b a))) (by rfl) dvs) (by simp) (by simp) (by simp [Ty.signs] <;> omega) (by simp [Ty.signs] <;> omega)) (yc_mk (.k1 wa wb wc) (yda1 (yd_var (i := 7) (d := Ty.d (Ty.n .un c (Ty.n .un b a))) (by rfl) dvs)) (yda1 (yd_var (i := 7) (d := Ty.d (Ty.n .un c (Ty.n .un b a))) (by rfl) dvs)) (yd_var (i := 6) (d := Ty.d (Ty.n .un (Ty.n .th b c) a)) (by rfl) dvq) (by simp) (by simp) (by simp [Ty.signs] <;> omega) (by simp [Ty.signs] <;> omega)) (Same.refl He) (by rfl) (xe _ _ ed) (by simp) (fun v hv => (gd v hv).same xe) fun O v10 v11 Hf xf ef gf => q O _ Hf (sHe.trans xf) ef (by simp) gf
end
end S4

namespace S4
open PySem PySem.Spec PyProof.Rows L2 LamX KT
open PySem.W (Frag)
section
variable {P : Program} {w : World} {K : Frag} {mg : Str → Option Value} {base : Heap}
structure CRs (P : Program) (w : World) (K : Frag) (mg : Str → Option Value) (base : Heap) (fS fN fE fT fB fI : Addr) (dS dN dE dT dB dI : FuncData) : Prop where
  TS : Top K mg "_law_same" sLSame pLSame fS dS
  TN : Top K mg "_law_named" sLNamed pLNamed fN dN
  TE : Top K mg "_law_exact" sLExact pLExact fE dE
  TT : Top K mg "_law_told" sLTold pLTold fT dT
  TB : Top K mg "told_by" sToldBy pToldBy fB dB
  TI : Top K mg "is_derivation_of" sIsDerivationOf pIsDerivationOf fI dI
  GS : FnOk P w K mg base CX0 32 fS dS pLSame (spSameL 30)
  GN : FnOk P w K mg base CX0 5 fN dN pLNamed spNmd
  GE : FnOk P w K mg base CX0 41 fE dE pLExact (spExact 40)
  GT : FnOk P w K mg base CX0 33 fT dT pLTold (spLTold 30)
  GB : FnOk P w K mg base CX0 7 fB dB pToldBy spToldBy
  GI : FnOk P w K mg base CX0 7 fI dI pIsDerivationOf spIsDerOf
theorem same_ds {H : Hp} {p q : Addr} {us ws : List V} {ds : List D} (e : H p = some (.lst us)) (e' : H q = some (.lst ws)) (h : DsAt H us ds) (h' : DsAt H ws ds) (s : ∀ d ∈ ds, d.dep ≤ 30 ∧ d.size ≤ 4000) (l : ds.length ≤ 100) : SameDt H 31 (.ref p) (.ref q) := by
  refine .lst e e' (by rw [h.length, h'.length]) (by rw [h.length]; omega) fun i x y h1 h2 => ?_
  obtain ⟨d, hd, hx⟩ := h.at_ h1
  obtain ⟨d', hd', hy⟩ := h'.at_ h2
  obtain rfl := Option.some.inj (hd.symm.trans hd')
  obtain ⟨b1, b2⟩ := s d (List.mem_of_getElem? hd)
  exact (SameDt.d 4000 b2 (Nat.le_refl _) hx hy).le b1
def spCaseRight : Sp := fun vs H Q _ => ∃ v, vs = [v] ∧ GoodC (fun _ => True) H v ∧ ∀ H', Same H H' → Q (.bl true) H'
theorem ok_caseRight {f fS fN fE fT fB fI : Addr} {fd dS dN dE dT dB dI : FuncData} (T : Top K mg "_law_case_right" sLCaseRight pLCaseRight f fd) (R : CRs P w K mg base fS fN fE fT fB fI dS dN dE dT dB dI) : FnOk P w K mg base CX0 42 f fd pLCaseRight spCaseRight := by
  obtain ⟨TS, TN, TE, TT, TB, TI, GS, GN, GE, GT, GB, GI⟩ := R
  refine T.F.ok scLCaseRight (fun vs H Q E h => ?_) (fun cdv A0 outer s H vs Q E hr h => ?_)
  · obtain ⟨_, rfl, _⟩ := h
    rfl
  · obtain ⟨v, rfl, ⟨j, ds, d, row, goal, p, A, R, g, us, ms, rfl, _, _, _, ep, eA, hus, eR, hms, hg, c, br, bg⟩, k⟩ := h
    have hr5 : Room 5 _ := hr.mono (by decide)
    have hr7 : Room 7 _ := hr.mono (by decide)
    have hr32 : Room 32 _ := hr.mono (by decide)
    have hr33 : Room 33 _ := hr.mono (by decide)
    refine ⟨_, (pss_cons (ps_asg (pv 0) (pg_lst (by rfl) (pgs_cons (pg_name (i := 1) scLCaseRight.nd rfl (Or.inl rfl)) (pgs_cons (pg_name (i := 2) scLCaseRight.nd rfl (Or.inl rfl)) (pgs_cons (pg_name (i := 3) scLCaseRight.nd rfl (Or.inl rfl)) (pgs_cons (pg_name (i := 4) scLCaseRight.nd rfl (Or.inl rfl)) pgs_nil))))))
      (pss_cons (ps_set (i := 5) scLCaseRight.nd rfl (Or.inl rfl) (pe_call GS hr32 rfl TS.g TS.F.kp TS.b .nil pass0 (pa_cons (pv 2) pa_nil)))
      (pss_cons (ps_set (i := 6) scLCaseRight.nd rfl (Or.inl rfl) (pe_call GN hr5 rfl TN.g TN.F.kp TN.b .nil pass0 (pa_cons (pv 1) (pa_cons (pv 2) pa_nil))))
      (pss_cons (ps_if (pt_not (pt_val (pe_call GE hr rfl TE.g TE.F.kp TE.b .nil pass0 (pa_cons (pe_lst (pa_cons (pe_call GT hr33 rfl TT.g TT.F.kp TT.b .nil pass0 (pa_cons (pv 6) pa_nil)) (pa_cons (pv 2) pa_nil))) (pa_cons (pe_lst (pa_cons (pe_lst (pa_cons (pv 3) (pa_cons (pv 4) pa_nil))) (pa_cons (pv 5) pa_nil))) pa_nil))))) pss_never pss_nil)
      (pss_cons (ps_set (i := 7) scLCaseRight.nd rfl (Or.inl rfl) (pe_call GB hr7 rfl TB.g TB.F.kp TB.b .nil pass0 (pa_cons (pv 6) pa_nil)))
      (pss_cons (ps_if (PW.pt (pw_or (pt_not (pt_val (pe_call GE hr rfl TE.g TE.F.kp TE.b .nil pass0 (pa_cons (pv 7) (pa_cons (pe_tup (pa_cons (pv 3) (pa_cons (pv 4) pa_nil))) pa_nil))))) (pw_or1 (pt_cmpR op_isnot_bl (pe_call GI hr7 rfl TI.g TI.F.kp TI.b .nil pass0 (pa_cons (pe_ix ix_tup (pv 7) pe_int (fun _ _ => rfl)) (pa_cons (pe_ix ix_tup (pv 7) pe_int (fun _ _ => rfl)) (pa_cons (pv 6) pa_nil)))) pe_bl (by rfl))))) pss_never pss_nil)
      (pss_one (ps_ret (pe_call GE hr rfl TE.g TE.F.kp TE.b .nil pass0 (pa_cons (pe_call GN hr5 rfl TN.g TN.F.kp TN.b .nil pass0 (pa_cons (pv 1) (pa_cons (pe_call GS hr32 rfl TS.g TS.F.kp TS.b .nil pass0 (pa_cons (pv 2) pa_nil)) pa_nil))) (pa_cons (pv 6) pa_nil))))))))))), ?_⟩
    have sz2 : 2 ≤ sizeLine := by rw [sizeLine_eq]; omega
    obtain ⟨sm1, sm2, sm3⟩ := c.small br bg
    have etl := c.tl
    have ld : ds.length ≤ 3 := by rcases c.shape with ⟨_, l⟩ | ⟨_, l⟩ | ⟨_, l⟩ | ⟨_, l⟩ | ⟨_, l⟩ | ⟨_, l⟩ <;> omega
    have smA : ∀ e ∈ ds, e.dep ≤ 30 ∧ e.size ≤ 4000 := fun e he => by have := sm1 e he; omega
    have smB : ∀ e ∈ ds, e.dep ≤ 60 ∧ e.size ≤ 1000000 := fun e he => by have := sm1 e he; omega
    have rdep : ∀ t ∈ row, t.d.dep ≤ 11 ∧ t.d.size ≤ 1000000 := fun t ht => by have := ty_dep_small t; have := br t ht; omega
    have gdep : goal.d.dep ≤ 11 ∧ goal.d.size ≤ 1000000 := by have := ty_dep_small goal; omega
    have lrow : row.length ≤ 2 := by cases c <;> simp
    have hne : row ≠ [] := by cases c <;> simp
    refine ⟨_, rfl, p, _, rfl, SqL.of ep, rfl, _, _, rfl, _, _, rfl, _, _, rfl, _, _, rfl, rfl, ?_⟩
    refine ⟨_, rfl, A, us, ds, rfl, eA, hus, by omega, smA, fun M ws H1 s1 nM eM hM => ?_⟩
    refine ⟨_, rfl, _, rfl, j, A, us, ds, d, row, goal, rfl, s1 _ _ eA, hus.mono (TK.of_same s1), c, smB, fun vt H2 s2 ht => ?_⟩
    refine ⟨_, rfl, vt, d, (row, goal), rfl, ht, etl, by omega, by omega, by omega, fun vr H3 s3 R3 => ⟨_, rfl, sz2, fun X nX => ⟨_, rfl, _, rfl, sz2, fun Y nY => ⟨_, rfl, sz2, fun Z nZ => ?_⟩⟩⟩⟩
    have x1 := same_upd (o := .lst [vr, .ref A]) nX
    have x2 := same_upd (o := .lst [.ref R, g]) nY
    have x3 := same_upd (o := .lst [.ref Y, .ref M]) nZ
    have e1 := (x2.trans x3) _ _ (upd_same (H := H3) (a := X) (o := .lst [vr, .ref A]))
    have e2 := x3 _ _ (upd_same (a := Y) (o := .lst [.ref R, g]))
    have e3 := upd_same (H := upd (upd H3 X (.lst [vr, .ref A])) Y (.lst [.ref R, g])) (a := Z) (o := .lst [.ref Y, .ref M])
    have x13 := (x1.trans x2).trans x3
    generalize upd (upd (upd H3 X (.lst [vr, .ref A])) Y (.lst [.ref R, g])) Z (.lst [.ref Y, .ref M]) = H4 at *
    have s14 := (s2.trans s3).trans x13
    have s04 := s1.trans s14
    have t04 := TK.of_same s04
    obtain ⟨pr, Lr, ur, gr, rfl, er, eLr, hTr, hgr⟩ := R3.same x13
    have hTr : Tys H4 ur row := hTr
    have hgr : TyAt H4 gr goal := hgr
    refine ⟨_, _, rfl, ?_, fun H5 s5 => ⟨true, rfl, iteF ?_⟩⟩
    · refine (SameDt.lst (k := 31) e1 e3 rfl (by show 2 ≤ _; omega) (two_same ?_ ?_)).le (by omega)
      · refine (SameDt.lst (k := 12) er e2 rfl (by show 2 ≤ _; omega) (two_same ?_ ?_)).le (by omega)
        · exact (SameDt.row (k := 11) eLr (s04 _ _ eR) hTr (hms.mono t04) (by omega) fun t ht => (rdep t ht).1).le (by omega)
        · exact (SameDt.tyd hgr (hg.mono t04)).le (by omega)
      · exact same_ds (s04 _ _ eA) (s14 _ _ eM) (hus.mono t04) (hM.mono (TK.of_same s14)) smA (by omega)
    have s25 := (s3.trans x13).trans s5
    have s05 := s04.trans s5
    have ht5 := ht.mono (TK.of_same s25)
    refine ⟨_, rfl, vt, d, (row, goal), rfl, ht5, by omega, by omega, etl, fun va H6 s6 R6 => ?_⟩
    obtain ⟨pa, La, ua, ga, rfl, _, ea, eLa, hTa, hga⟩ := R6
    have hTa : Tys H6 ua row := hTa
    have hga : TyAt H6 ga goal := hga
    have s06 := s05.trans s6
    refine ⟨_, rfl, _, rfl, _, rfl, sz2, fun q nq => ?_⟩
    have xq := same_upd (o := .tup [.ref R, g]) nq
    have eq : upd H6 q (.tup [.ref R, g]) q = some (.tup [.ref R, g]) := upd_same
    generalize upd H6 q (.tup [.ref R, g]) = H7 at *
    have s07 := s06.trans xq
    have t07 := TK.of_same s07
    refine ⟨_, _, rfl, ((told_same (r := (row, goal)) (k := 11) (xq _ _ ea) eq (xq _ _ eLa) (s07 _ _ eR) (hTa.mono (TK.of_same xq)) (hms.mono t07) (hga.mono (TK.of_same xq)) (hg.mono t07) (by show row.length ≤ 4000; omega) (fun t ht => (rdep t ht).1) gdep.1).le (by omega)), fun H8 s8 => ⟨true, rfl, iteF ?_⟩⟩
    have s68 := xq.trans s8
    have s08 := s07.trans s8
    have ro : RowOk row := ⟨by omega, fun t ht => ⟨by have := (rdep t ht).1; omega, (rdep t ht).2⟩⟩
    refine ⟨_, rfl, pa, _, _, _, rfl, rfl, SqT.of (s68 _ _ ea), atI_nat (j := 0) rfl, _, rfl, pa, _, _, _, rfl, rfl, SqT.of (s68 _ _ ea), atI_nat (j := 1) rfl, _, rfl, ?_⟩
    refine ⟨La, row, ga, goal, vt, d, rfl, ⟨ua, s68 _ _ eLa, hTa.mono (TK.of_same s68)⟩, ro, hne, hga.mono (TK.of_same s68), by omega, gdep.2, ht5.mono (TK.of_same (s6.trans s68)), by omega, by omega, fun H9 s9 => ?_⟩
    rw [decide_eq_true etl]
    refine ⟨_, _, rfl, rfl, _, rfl, iteF ?_⟩
    have s09 := s08.trans s9
    have t09 := TK.of_same s09
    refine ⟨_, rfl, _, rfl, A, us, ds, rfl, s09 _ _ eA, hus.mono t09, by omega, smA, fun M' ws' Ha sa nM' eM' hM' => ?_⟩
    refine ⟨j, M', ws', ds, d, row, goal, rfl, eM', hM', c, smB, fun vt' Hb sb ht' => ⟨_, rfl, ?_⟩⟩
    have s5b := (((s6.trans s68).trans s9).trans sa).trans sb
    refine ⟨_, _, rfl, ((SameDt.d 4000 (by omega) (Nat.le_refl _) ht' (ht5.mono (TK.of_same s5b))).le (by omega)), fun Hz sz => k Hz ?_⟩
    exact (s05.trans s5b).trans sz
end
end S4

namespace S4
open PySem PySem.Spec PyProof.Rows L2 LamX KT
open PySem.W (Frag)
abbrev s0D (a b c : Ty) : D := umD (omD (.t [.s "over used", .i 1, isD c, unD b.d (isD a)]))
abbrev s1D (a b c : Ty) : D := omD (umD (unD b.d (ovD c.d (isD a))))
abbrev p0D (a b c : Ty) : D := omD (omD (.t [.s "over used", .i 0, .t [.s "then made", isD b, isD c], isD a]))
abbrev k0D (a b c : Ty) : D := omD (.t [.s "then used", .i 1, ovD b.d (ovD c.d (isD a))])
theorem cut_tl {d1 d2 : D} {t g r : Ty} (e1 : d1.tl = some ([t], g)) (e2 : d2.tl = some ([g], r)) : (D.t [.s "cut", .i 0, d1, d2]).tl = some ([t], r) := by
  refine tl_of (.us (by decide) e1 e2 ?_)
  have n1 : ¬ ("cut" : Str) = "over used" := by decide
  have n2 : ¬ ("cut" : Str) = "under used" := by decide
  simp [usedAt, n1, n2]
section
variable {P : Program} {w : World} {K : Frag} {mg : Str → Option Value} {base : Heap}
theorem yd_forT {te : TE} {g : TG} {tb u : TS} {D0 : Ends} {σ : L2.St} {H H0 : Hp} {ds : List D} (y : Yd te σ H0 (.t ds)) (s : Same H0 H) (q : ∀ (a : Addr) xs H', Same H H' → H' a = some (.tup xs) → DsAt H' xs ds → ∃ W : Nat → Nat → L2.St → Hp → Prop, (∃ m, W 0 m σ H') ∧ ∀ i m σ H, W i m σ H →
  ((Itt K a).stop i H ∧ ({ D0 with nx := u D0 } : Ends).nx σ H) ∨ ((Itt K a).go i H ∧ ∃ N : L2.St → Hp → Prop, (∀ σ' H', N σ' H' → ∃ m', m' < m ∧ W (i + 1) m' σ' H') ∧ ∀ x H', (Itt K a).yld i H x H' → g x σ H' fun σ2 H2 => tb { ({ D0 with nx := u D0 } : Ends) with nx := N, ct := N, bk := ({ D0 with nx := u D0 } : Ends).nx } σ2 H2)) : tSeq (tFor (iTup K te) g tb) u D0 σ H := y H s _ fun v H' s' hv => by
  cases hv with
  | @t a xs _ e hx => exact ⟨a, rfl, ⟨xs, SqT.of e⟩, q a xs H' s' e hx⟩
theorem yd_spN {j : Int} {n : Nat} {t : TA} {σ : L2.St} {H0 : Hp} {ds : List D} {d : D} {row : List Ty} {goal : Ty} (h : YdA t σ H0 ds) (l : ds.length = n) (c : Case j ds d row goal) (s : ∀ e ∈ ds, e.dep ≤ 60 ∧ e.size ≤ 1000000) : Yd (tCall (spN j n) [] L2.E0 t) σ H0 d := yd_call h fun vs H Q _ hv q => ⟨ds, d, row, goal, by rw [hv.length, l], hv, c, s, q⟩
/-- one turn: two steps there and back, and the type -/
def Trn (x : D) : Prop := ∃ d1 d2 t g, x = .t [d1, d2, Ty.d t] ∧ d1.tl = some ([t], g) ∧ d2.tl = some ([g], t) ∧ d1.size ≤ 100 ∧ d1.dep ≤ 24 ∧ d2.size ≤ 100 ∧ d2.dep ≤ 24 ∧ t.wok ∧ t.d.dep ≤ 24
def spRound : Sp := fun vs H Q _ => ∃ va vb vc a b c, vs = [va, vb, vc] ∧ TyAt H va a ∧ TyAt H vb b ∧ TyAt H vc c ∧ a.signs ≤ 2 ∧ b.signs ≤ 2 ∧ c.signs ≤ 2 ∧ ∀ H', Same H H' → Q (.bl true) H'
theorem ok_round {f fC fE fT f0 f3 f4 f5 : Addr} {fd dC dE dT d0 d3 d4 d5 : FuncData} (T : Top K mg "_law_round_right" sLRoundRight pLRoundRight f fd) (TC : Top K mg "cut_in" sCutIn pCutIn fC dC) (TE : Top K mg "_law_exact" sLExact pLExact fE dE) (TT : Top K mg "_law_told" sLTold pLTold fT dT)
    (T0 : Top K mg "raising" sRaising pRaising f0 d0) (T3 : Top K mg "swapping" sSwapping pSwapping f3 d3) (T4 : Top K mg "parting" sParting pParting f4 d4) (T5 : Top K mg "packing" sPacking pPacking f5 d5)
    (GC : FnOk P w K mg base CX0 8 fC dC pCutIn spCutIn) (GE : FnOk P w K mg base CX0 41 fE dE pLExact (spExact 40)) (GT : FnOk P w K mg base CX0 33 fT dT pLTold (spLTold 30)) (G0 : FnOk P w K mg base CX0 4 f0 d0 pRaising (spN 0 3)) (G3 : FnOk P w K mg base CX0 4 f3 d3 pSwapping (spN 3 1)) (G4 : FnOk P w K mg base CX0 4 f4 d4 pParting (spN 4 1)) (G5 : FnOk P w K mg base CX0 4 f5 d5 pPacking (spN 5 1)) : FnOk P w K mg base CX0 42 f fd pLRoundRight spRound := by
  refine T.F.ok scLRoundRight (fun vs H Q E h => ?_) (fun cdv A0 outer s H vs Q E hr h => ?_)
  · obtain ⟨_, _, _, _, _, _, rfl, _⟩ := h
    rfl
  · obtain ⟨va, vb, vc, a, b, c, rfl, ha, hb, hc, sa, sb, sc, k⟩ := h
    have hr4 : Room 4 _ := hr.mono (by decide)
    have hr8 : Room 8 _ := hr.mono (by decide)
    have hr33 : Room 33 _ := hr.mono (by decide)
    refine ⟨_, (pss_cons (ps_set (i := 3) scLRoundRight.nd rfl (Or.inl rfl) (pe_tup (pa_cons pe_str (pa_cons (pe_tup (pa_cons pe_str (pa_cons (pv 1) (pa_cons (pv 0) pa_nil)))) (pa_cons (pv 2) pa_nil)))))
      (pss_cons (ps_set (i := 4) scLRoundRight.nd rfl (Or.inl rfl) (pe_tup (pa_cons pe_str (pa_cons (pv 0) (pa_cons (pe_tup (pa_cons pe_str (pa_cons (pv 1) (pa_cons (pv 2) pa_nil)))) pa_nil)))))
      (pss_cons (ps_for PassesOwn.never rfl (pi_tup (pe_tup (pa_cons (pe_tup (pa_cons (pe_call G3 hr4 rfl T3.g T3.F.kp T3.b .nil pass0 (pa_cons (pv 3) pa_nil)) (pa_cons (pe_call G3 hr4 rfl T3.g T3.F.kp T3.b .nil pass0 (pa_cons (pe_tup (pa_cons pe_str (pa_cons (pv 1) (pa_cons (pe_tup (pa_cons pe_str (pa_cons (pv 0) (pa_cons (pv 2) pa_nil)))) pa_nil)))) pa_nil)) (pa_cons (pv 3) pa_nil)))) (pa_cons (pe_tup (pa_cons (pe_call G4 hr4 rfl T4.g T4.F.kp T4.b .nil pass0 (pa_cons (pv 4) pa_nil)) (pa_cons (pe_call G5 hr4 rfl T5.g T5.F.kp T5.b .nil pass0 (pa_cons (pe_tup (pa_cons pe_str (pa_cons (pe_tup (pa_cons pe_str (pa_cons (pv 0) (pa_cons (pv 2) pa_nil)))) (pa_cons (pv 1) pa_nil)))) pa_nil)) (pa_cons (pv 4) pa_nil)))) pa_nil)))) (pg_tup (by rfl) (pgs_cons (pg_name (i := 5) scLRoundRight.nd rfl (Or.inl rfl)) (pgs_cons (pg_name (i := 6) scLRoundRight.nd rfl (Or.inl rfl)) (pgs_cons (pg_name (i := 7) scLRoundRight.nd rfl (Or.inl rfl)) pgs_nil))))
      (pss_cons (ps_set (i := 8) scLRoundRight.nd rfl (Or.inl rfl) (pe_call GC hr8 rfl TC.g TC.F.kp TC.b .nil pass0 (pa_cons (pv 5) (pa_cons (pv 6) (pa_cons pe_int pa_nil)))))
      (pss_one (ps_if (pt_not (pt_val (pe_call GE hr rfl TE.g TE.F.kp TE.b .nil pass0 (pa_cons (pe_call GT hr33 rfl TT.g TT.F.kp TT.b .nil pass0 (pa_cons (pv 8) pa_nil)) (pa_cons (pe_lst (pa_cons (pe_lst (pa_cons (pv 7) pa_nil)) (pa_cons (pv 7) pa_nil))) pa_nil))))) pss_never pss_nil))))
      (pss_cons (ps_par (i := 5) (j := 6) rfl scLRoundRight.nd rfl rfl (by decide) rfl rfl (pa_cons (pe_call G0 hr4 rfl T0.g T0.F.kp T0.b .nil pass0 (pa_cons (pv 0) (pa_cons (pv 1) (pa_cons pe_str pa_nil)))) (pa_cons (pe_call G0 hr4 rfl T0.g T0.F.kp T0.b .nil pass0 (pa_cons (pe_tup (pa_cons pe_str (pa_cons (pv 1) (pa_cons (pe_tup (pa_cons pe_str (pa_cons (pv 0) (pa_cons (pv 1) pa_nil)))) pa_nil)))) (pa_cons (pv 2) (pa_cons pe_str pa_nil)))) pa_nil)) (by rfl))
      (pss_cons (ps_set (i := 9) scLRoundRight.nd rfl (Or.inl rfl) (pe_tup (pa_cons pe_str (pa_cons (pe_tup (pa_cons pe_str (pa_cons (pv 2) (pa_cons (pe_tup (pa_cons pe_str (pa_cons (pv 1) (pa_cons (pe_tup (pa_cons pe_str (pa_cons (pv 0) (pa_cons (pv 1) pa_nil)))) pa_nil)))) pa_nil)))) (pa_cons (pv 2) pa_nil)))))
      (pss_one (ps_ret (pe_call GE hr rfl TE.g TE.F.kp TE.b .nil pass0 (pa_cons (pe_call GT hr33 rfl TT.g TT.F.kp TT.b .nil pass0 (pa_cons (pe_call GC hr8 rfl TC.g TC.F.kp TC.b .nil pass0 (pa_cons (pv 5) (pa_cons (pv 6) (pa_cons pe_int pa_nil)))) pa_nil)) (pa_cons (pe_lst (pa_cons (pe_lst (pa_cons (pv 0) pa_nil)) (pa_cons (pv 9) pa_nil))) pa_nil)))))))))), ?_⟩
    have sz1 : 1 ≤ sizeLine := by rw [sizeLine_eq]; omega
    have sz2 : 2 ≤ sizeLine := by rw [sizeLine_eq]; omega
    have wa := ha.wok
    have wb := hb.wok
    have wc := hc.wok
    have za := ty_dep_small a
    have zb := ty_dep_small b
    have zc := ty_dep_small c
    have ya : ∀ {σ : L2.St} {H' : Hp}, σ[0]? = some (some va) → TK H H' → Yd (tVar 0) σ H' a.d := fun e t => yd_var e (ha.mono t).d
    have yb : ∀ {σ : L2.St} {H' : Hp}, σ[1]? = some (some vb) → TK H H' → Yd (tVar 1) σ H' b.d := fun e t => yd_var e (hb.mono t).d
    have yc : ∀ {σ : L2.St} {H' : Hp}, σ[2]? = some (some vc) → TK H H' → Yd (tVar 2) σ H' c.d := fun e t => yd_var e (hc.mono t).d
    have exk : ∀ {H : Hp} {v : V} {t g : Ty} {Z Y : Addr} {x y : V}, LRes H v (some ([t], g)) → H Z = some (.lst [.ref Y, y]) → H Y = some (.lst [x]) → TyAt H x t → TyAt H y g → t.d.dep ≤ 30 → g.d.dep ≤ 30 → SameDt H 40 v (.ref Z) := fun {H v t g Z Y x y} R eZ eY hx hy b1 b2 => by
      obtain ⟨p, L, us, u, rfl, ep, eL, hT, hg⟩ := R
      have hg : TyAt H u g := hg
      refine (SameDt.lst (k := 31) ep eZ rfl (by show 2 ≤ _; omega) (two_same ?_ ?_)).le (by omega)
      · exact SameDt.row (k := 30) eL eY hT (.cons hx .nil) (by simp) fun t' ht' => by rw [List.mem_singleton.mp ht']; exact b1
      · exact (SameDt.tyd hg hy).le (by omega)
    refine yd_set (d := Ty.d (.n .ov (.n .un b a) c)) (yt3 (d := Ty.d (.n .un b a)) (e := c.d) tx_over (yt3 (d := b.d) (e := a.d) tx_under (yb (by rfl) (TK.refl H)) (ya (by rfl) (TK.refl H))) (yc (by rfl) (TK.refl H))) (Same.refl H) fun vl H1 s1 hl => ?_
    have t1 := TK.of_same s1
    refine yd_set (d := Ty.d (.n .ov a (.n .th b c))) (yt3 (d := a.d) (e := Ty.d (.n .th b c)) tx_over (ya (by rfl) t1) (yt3 (d := b.d) (e := c.d) tx_then (yb (by rfl) t1) (yc (by rfl) t1))) (Same.refl H1) fun vo H2 s2 ho => ?_
    have s02 := s1.trans s2
    have t2 := TK.of_same s02
    have hl2 := hl.mono (TK.of_same s2)
    have tyl := hl2.ty (Ty.ty_d (.n .ov (.n .un b a) c) ⟨⟨wb, wa⟩, wc⟩)
    have tyo := ho.ty (Ty.ty_d (.n .ov a (.n .th b c)) ⟨wa, wb, wc⟩)
    have smal : ∀ t : Ty, t.signs ≤ 11 → t.d.dep ≤ 60 ∧ t.d.size ≤ 1000000 := fun t h => by have := ty_dep_small t; omega
    have sm1 : ∀ t : Ty, t.signs ≤ 11 → ∀ e ∈ [t.d], e.dep ≤ 60 ∧ e.size ≤ 1000000 := fun t h e he => by rw [List.mem_singleton.mp he]; exact smal t h
    refine yd_forT (ds := [.t [s0D a b c, s1D a b c, Ty.d (.n .ov (.n .un b a) c)], .t [p0D a b c, k0D a b c, Ty.d (.n .ov a (.n .th b c))]]) (yd_tup (yda2 (yd_tup (yda3 (yd_spN (yda1 (yd_var (by rfl) hl2)) rfl (.s0 wa wb wc) (sm1 _ (by simp only [Ty.signs]; omega))) (yd_spN (yda1 (yt3 (d := b.d) (e := Ty.d (.n .ov a c)) tx_under (yb (by rfl) t2) (yt3 (d := a.d) (e := c.d) tx_over (ya (by rfl) t2) (yc (by rfl) t2)))) rfl (.s1 wa wb wc) (sm1 (.n .un b (.n .ov a c)) (by simp only [Ty.signs]; omega))) (yd_var (by rfl) hl2)) (by simp))
      (yd_tup (yda3 (yd_spN (yda1 (yd_var (by rfl) ho)) rfl (.p0 wa wb wc) (sm1 _ (by simp only [Ty.signs]; omega))) (yd_spN (yda1 (yt3 (d := Ty.d (.n .ov a c)) (e := b.d) tx_over (yt3 (d := a.d) (e := c.d) tx_over (ya (by rfl) t2) (yc (by rfl) t2)) (yb (by rfl) t2))) rfl (.k0 wa wb wc) (sm1 (.n .ov (.n .ov a c) b) (by simp only [Ty.signs]; omega))) (yd_var (by rfl) ho)) (by simp))) (by simp)) (Same.refl H2) fun aa xs H3 s3 ea hx => ?_
    have trn : ∀ x ∈ ([.t [s0D a b c, s1D a b c, Ty.d (.n .ov (.n .un b a) c)], .t [p0D a b c, k0D a b c, Ty.d (.n .ov a (.n .th b c))]] : List D), Trn x := fun x hx => by
      simp only [List.mem_cons, List.not_mem_nil, or_false] at hx
      rcases hx with rfl | rfl
      · refine ⟨_, _, _, .n .un b (.n .ov a c), rfl, (Case.s0 wa wb wc).tl, (Case.s1 wa wb wc).tl, ?_, ?_, ?_, ?_, ⟨⟨wb, wa⟩, wc⟩, ?_⟩ <;> simp only [D.size, sizeAll, D.dep, depAll, Ty.d] <;> omega
      · refine ⟨_, _, _, .n .ov (.n .ov a c) b, rfl, (Case.p0 wa wb wc).tl, (Case.k0 wa wb wc).tl, ?_, ?_, ?_, ?_, ⟨wa, wb, wc⟩, ?_⟩ <;> simp only [D.size, sizeAll, D.dep, depAll, Ty.d] <;> omega
    have s03 := s02.trans s3
    have lx := hx.length
    refine for_tup (K := K) (xs := xs) (fun i σ H' => ∃ (x3 x4 x5 x6 x7 x8 x9 : Option V), σ = [some va, some vb, some vc, x3, x4, x5, x6, x7, x8, x9] ∧ Same H3 H') ⟨_, _, _, _, _, _, _, rfl, Same.refl H3⟩ (fun i σ H' _ ⟨_, _, _, _, _, _, _, _, s⟩ => SqT.of (s _ _ ea)) ?_ ?_
    · rintro i x σ H4 hxi ⟨x3, x4, x5, x6, x7, x8, x9, rfl, s4⟩
      obtain ⟨xd, hxd, hxa⟩ := hx.at_ hxi
      obtain ⟨e1, e2, t, g, rfl, tl1, tl2, z1, p1, z2, p2, wt, dt⟩ := trn xd (List.mem_of_getElem? hxd)
      have hxa := hxa.mono (TK.of_same s4)
      cases hxa with
      | @t q ys _ eq hys =>
        obtain ⟨y1, y2, y3, rfl, hy1, hy2, hy3⟩ := dsAt3 hys
        have ht := hy3.ty (t.ty_d wt)
        refine ⟨q, _, rfl, SqT.of eq, rfl, _, _, rfl, _, _, rfl, _, _, rfl, rfl, ?_⟩
        refine ⟨_, rfl, _, rfl, y1, y2, e1, e2, _, g, [], t, rfl, hy1, hy2, by omega, by omega, by omega, by omega, tl1, tl2, fun vb' H5 s5 hb' => ?_⟩
        have tlc := cut_tl tl1 tl2
        refine ⟨_, rfl, vb', _, ([t], t), rfl, hb', tlc, by simp only [D.dep, depAll]; omega, by simp only [D.size, sizeAll]; omega, by simp only [D.dep, depAll]; omega, fun vr H6 s6 R6 => ⟨_, rfl, sz1, fun Y nY => ⟨_, rfl, sz2, fun Z nZ => ?_⟩⟩⟩
        have x1 := same_upd (o := .lst [y3]) nY
        have x2 := same_upd (o := .lst [.ref Y, y3]) nZ
        have f1 := x2 _ _ (upd_same (H := H6) (a := Y) (o := .lst [y3]))
        have f2 := upd_same (H := upd H6 Y (.lst [y3])) (a := Z) (o := .lst [.ref Y, y3])
        have x12 := x1.trans x2
        generalize upd (upd H6 Y (.lst [y3])) Z (.lst [.ref Y, y3]) = H7 at *
        have s47 := (s5.trans s6).trans x12
        have ht7 := ht.mono (TK.of_same s47)
        refine ⟨_, _, rfl, exk (R6.same x12) f2 f1 ht7 ht7 (by omega) (by omega), fun H8 s8 => ⟨true, rfl, iteF ?_⟩⟩
        exact ⟨_, _, _, _, _, _, _, rfl, (s4.trans s47).trans s8⟩
    · rintro σ H4 ⟨x3, x4, x5, x6, x7, x8, x9, rfl, s4⟩
      have s04 := s03.trans s4
      have t4 := TK.of_same s04
      dsimp only
      have c0 : Case 0 [a.d, b.d, .s "over"] (omD (unD a.d (isD b))) [a] (.n .ov b (.n .un a b)) := .r0 wa wb
      have c1 : Case 0 [Ty.d (.n .ov b (.n .un a b)), c.d, .s "under"] (umD (ovD (Ty.d (.n .ov b (.n .un a b))) (isD c))) [.n .ov b (.n .un a b)] (.n .un (.n .ov c (.n .ov b (.n .un a b))) c) := .r1 ⟨wb, wa, wb⟩ wc
      have m0 : ∀ e ∈ ([a.d, b.d, .s "over"] : List D), e.dep ≤ 60 ∧ e.size ≤ 1000000 := fun e he => by
        simp only [List.mem_cons, List.not_mem_nil, or_false] at he
        rcases he with rfl | rfl | rfl
        · exact smal a (by omega)
        · exact smal b (by omega)
        · simp only [D.dep, D.size]; omega
      have m1 : ∀ e ∈ ([Ty.d (.n .ov b (.n .un a b)), c.d, .s "under"] : List D), e.dep ≤ 60 ∧ e.size ≤ 1000000 := fun e he => by
        simp only [List.mem_cons, List.not_mem_nil, or_false] at he
        rcases he with rfl | rfl | rfl
        · exact smal _ (by simp only [Ty.signs]; omega)
        · exact smal c (by omega)
        · simp only [D.dep, D.size]; omega
      refine yda_par (yda2 (yd_spN (yda3 (ya (by rfl) t4) (yb (by rfl) t4) (yd_str tx_over)) rfl c0 m0) (yd_spN (yda3 (yt3 (d := b.d) (e := Ty.d (.n .un a b)) tx_over (yb (by rfl) t4) (yt3 (d := a.d) (e := b.d) tx_under (ya (by rfl) t4) (yb (by rfl) t4))) (yc (by rfl) t4) (yd_str tx_under)) rfl c1 m1)) (Same.refl H4) fun v1 v2 H5 s5 h1 h2 => ?_
      have s05 := s04.trans s5
      have t5 := TK.of_same s05
      have wdue : (Ty.n .un (.n .ov c (.n .ov b (.n .un a b))) c).wok := ⟨⟨wc, wb, wa, wb⟩, wc⟩
      refine yd_set (d := Ty.d (.n .un (.n .ov c (.n .ov b (.n .un a b))) c)) (yt3 (d := Ty.d (.n .ov c (.n .ov b (.n .un a b)))) (e := c.d) tx_under (yt3 (d := c.d) (e := Ty.d (.n .ov b (.n .un a b))) tx_over (yc (by rfl) t5) (yt3 (d := b.d) (e := Ty.d (.n .un a b)) tx_over (yb (by rfl) t5) (yt3 (d := a.d) (e := b.d) tx_under (ya (by rfl) t5) (yb (by rfl) t5)))) (yc (by rfl) t5)) (Same.refl H5) fun vd H6 s6 hd => ?_
      have h1 := h1.mono (TK.of_same s6)
      have h2 := h2.mono (TK.of_same s6)
      have hdue := hd.ty (Ty.ty_d _ wdue)
      have s06 := s05.trans s6
      refine ⟨_, rfl, _, rfl, v1, v2, _, _, [a], .n .ov b (.n .un a b), [], .n .un (.n .ov c (.n .ov b (.n .un a b))) c, rfl, h1, h2, ?_, ?_, ?_, ?_, c0.tl, c1.tl, fun vb' H7 s7 hb' => ?_⟩
      · simp only [D.size, sizeAll]; omega
      · simp only [D.dep, depAll]; omega
      · simp only [D.size, sizeAll, Ty.d]; omega
      · simp only [D.dep, depAll, Ty.d]; omega
      have tlc := cut_tl c0.tl c1.tl
      refine ⟨vb', _, ([a], .n .un (.n .ov c (.n .ov b (.n .un a b))) c), rfl, hb', tlc, ?_, ?_, ?_, fun vr H8 s8 R8 => ⟨_, rfl, sz1, fun Y nY => ⟨_, rfl, sz2, fun Z nZ => ?_⟩⟩⟩
      · simp only [D.dep, depAll, Ty.d]; omega
      · simp only [D.size, sizeAll, Ty.d]; omega
      · simp only [D.dep, depAll, Ty.d]; omega
      have x1 := same_upd (o := .lst [va]) nY
      have x2 := same_upd (o := .lst [.ref Y, vd]) nZ
      have f1 := x2 _ _ (upd_same (H := H8) (a := Y) (o := .lst [va]))
      have f2 := upd_same (H := upd H8 Y (.lst [va])) (a := Z) (o := .lst [.ref Y, vd])
      have x12 := x1.trans x2
      generalize upd (upd H8 Y (.lst [va])) Z (.lst [.ref Y, vd]) = H9 at *
      have s69 := (s7.trans s8).trans x12
      have s09 := s06.trans s69
      exact ⟨_, _, rfl, exk (R8.same x12) f2 f1 (ha.mono (TK.of_same s09)) (hdue.mono (TK.of_same s69)) (by omega) (by simp only [dep_n]; omega), fun Hz sz => k Hz (s09.trans sz)⟩
end
end S4

namespace S4
open PySem PySem.Spec PyProof.Rows L2 LamX KT
open PySem.W (Frag)
def AllK (H : Hp) (vs : List V) : Prop := ∀ v ∈ vs, ∃ t : Ty, TyAt H v t ∧ t.signs ≤ 2
theorem AllK.mono {H H' : Hp} {vs : List V} (h : AllK H vs) (t : TK H H') : AllK H' vs := fun v hv => by
  obtain ⟨t', a, b⟩ := h v hv
  exact ⟨t', a.mono t, b⟩
structure KI (p L : Addr) (zs : List Str) (n : Nat) (H0 : Hp) (W : Addr) (i : Nat) (H' : Hp) : Prop where
  kb : KeepBut p H0 H'
  hp : PurseAt H' p (n + 8 * i)
  ls : ∃ acc, H' W = some (.lst acc) ∧ acc.length = i ∧ AllK H' acc
theorem cutRule5 {F : L2.St → Hp → Prop} {A : Prop} (σ0 : L2.St) (Pre : Hp → Prop) (h : (∀ H7, Pre H7 → F σ0 H7) → A) (g : ∀ H7, Pre H7 → F σ0 H7) : A := h g
section
variable {P : Program} {w : World} {K : Frag} {mg : Str → Option Value} {base : Heap}
structure LwRs (P : Program) (w : World) (K : Frag) (mg : Str → Option Value) (base : Heap) (fPu fPl fD fSk fCa fCR fRR : Addr) (dPu dPl dD dSk dCa dCR dRR : FuncData) : Prop where
  TPu : Top K mg "_law_purse" sLPurse ["script", "at"] fPu dPu
  TPl : Top K mg "_law_plain_some" sLPlainSome pLPlainSome fPl dPl
  TD : Top K mg "_law_draw" sLDraw ["purse", "many"] fD dD
  TSk : Top K mg "_law_some_kind" sLSomeKind pLSomeKind fSk dSk
  TCa : Top K mg "_law_cases" sLCases pLCases fCa dCa
  TCR : Top K mg "_law_case_right" sLCaseRight pLCaseRight fCR dCR
  TRR : Top K mg "_law_round_right" sLRoundRight pLRoundRight fRR dRR
  GPu : FnOk P w K mg base CX0 1 fPu dPu ["script", "at"] (spPurse K)
  GPl : FnOk P w K mg base CX0 5 fPl dPl pLPlainSome spPlainSome
  GD : FnOk P w K mg base CX0 2 fD dD ["purse", "many"] spDraw
  GSk : FnOk P w K mg base CX0 7 fSk dSk pLSomeKind spSomeKind
  GCa : FnOk P w K mg base CX0 1 fCa dCa pLCases spCases
  GCR : FnOk P w K mg base CX0 42 fCR dCR pLCaseRight spCaseRight
  GRR : FnOk P w K mg base CX0 42 fRR dRR pLRoundRight spRound
def spLaw42 (K : Frag) : Sp := fun vs H Q _ => ∃ (a : Addr) (ns : List Int), vs = [.ref a] ∧ SqL K H a (ns.map V.int) ∧ ∀ H', Q (.bl true) H'
theorem ok_law42 {f fPu fPl fD fSk fCa fCR fRR : Addr} {fd dPu dPl dD dSk dCa dCR dRR : FuncData} (T : Top K mg "law" sLaw pLaw f fd) (R : LwRs P w K mg base fPu fPl fD fSk fCa fCR fRR dPu dPl dD dSk dCa dCR dRR) (B : Blt mg) : FnOk P w K mg base CX0 66 f fd pLaw (spLaw42 K) := by
  obtain ⟨TPu, TPl, TD, TSk, TCa, TCR, TRR, GPu, GPl, GD, GSk, GCa, GCR, GRR⟩ := R
  refine T.F.ok scLaw (fun vs H Q E h => ?_) (fun cdv A0 outer s H vs Q E hr h => ?_)
  · obtain ⟨_, _, rfl, _⟩ := h
    rfl
  · obtain ⟨sa, ns, rfl, hq, k⟩ := h
    have hr1 : Room 1 _ := hr.mono (by decide)
    have hr2 : Room 2 _ := hr.mono (by decide)
    have hr5 : Room 5 _ := hr.mono (by decide)
    have hr7 : Room 7 _ := hr.mono (by decide)
    have hr42 : Room 42 _ := hr.mono (by decide)
    refine ⟨_, (pss_cons (ps_set (i := 1) scLaw.nd rfl (Or.inr rfl) (pe_call GPu hr1 rfl TPu.g TPu.F.kp TPu.b .nil pass0 (pa_cons (pv 0) (pa_cons pe_int pa_nil))))
      (pss_cons (ps_set (i := 2) scLaw.nd rfl (Or.inr rfl) (pe_call GPl hr5 rfl TPl.g TPl.F.kp TPl.b .nil pass0 (pa_cons (pv 1) (pa_cons (pe_op op_add pe_int (pe_call GD hr2 rfl TD.g TD.F.kp TD.b .nil pass0 (pa_cons (pv 1) (pa_cons pe_int pa_nil)))) pa_nil))))
      (pss_cons (ps_for PassesOwn.never rfl (pi_range1 (by rfl) B.range (pa_cons pe_int pa_nil)) (pg_name (i := 3) scLaw.nd rfl (Or.inl rfl))
      (pss_cons (ps_setLc (i := 4) (own := [("place", 8)]) (g := (gName 8)) (tt := tYes) rfl scLaw.nd rfl rfl (by rfl) (pi_range1 (by rfl) B.range (pa_cons pe_int pa_nil)) (blkOk_by (N := nLaw) (sc := defScope sLaw) (by decide +kernel)) (fun _ _ _ _ _ => pg_name (i := 8) scLaw.nd rfl (Or.inl rfl)) (fun _ _ _ _ _ => pts_nil) (fun _ _ _ _ _ => (pe_call GSk hr7 rfl TSk.g TSk.F.kp TSk.b .nil pass0 (pa_cons (pv 1) (pa_cons (pv 2) (pa_cons pe_int (pa_cons (pe_tup (pa_cons pe_str (pa_cons pe_str (pa_cons pe_str pa_nil)))) pa_nil)))))))
      (pss_cons (ps_if (pt_cmpR op_eq (pe_call GD hr2 rfl TD.g TD.F.kp TD.b .nil pass0 (pa_cons (pv 1) (pa_cons pe_int pa_nil))) pe_int (nomark _)) (pss_one (ps_asg (pe_ix ix_list (pv 4) (pe_call GD hr2 rfl TD.g TD.F.kp TD.b .nil pass0 (pa_cons (pv 1) (pa_cons pe_int pa_nil))) (fun _ _ => rfl)) (pg_sub (pv 4) (pe_call GD hr2 rfl TD.g TD.F.kp TD.b .nil pass0 (pa_cons (pv 1) (pa_cons pe_int pa_nil))) set_list))) pss_nil)
      (pss_cons (ps_asg (pv 4) (pg_lst (by rfl) (pgs_cons (pg_name (i := 5) scLaw.nd rfl (Or.inl rfl)) (pgs_cons (pg_name (i := 6) scLaw.nd rfl (Or.inl rfl)) (pgs_cons (pg_name (i := 7) scLaw.nd rfl (Or.inl rfl)) pgs_nil)))))
      (pss_one (ps_if (PW.pt (pw_or (pt_not (pt_val (pe_callB (cr_all rfl) (by rfl) B.all (by decide +kernel) (pa_cons (pe_lc (own := [("case", 9)]) (g := (gName 9)) (tt := tYes) rfl scLaw.nd (pi_list (pe_call GCa hr1 rfl TCa.g TCa.F.kp TCa.b .nil pass0 (pa_cons (pv 5) (pa_cons (pv 6) (pa_cons (pv 7) pa_nil))))) (blkOk_by (N := nLaw) (sc := defScope sLaw) (by decide +kernel)) (fun _ _ _ _ _ => pg_name (i := 9) scLaw.nd rfl (Or.inl rfl)) (fun _ _ _ _ _ => pts_nil) (fun _ _ _ _ _ => (pe_call GCR hr42 rfl TCR.g TCR.F.kp TCR.b .nil pass0 (pa_cons (pv 9) pa_nil)))) pa_nil)))) (pw_or1 (pt_not (pt_val (pe_call GRR hr42 rfl TRR.g TRR.F.kp TRR.b .nil pass0 (pa_cons (pv 5) (pa_cons (pv 6) (pa_cons (pv 7) pa_nil))))))))) pss_never pss_nil))))))
      (pss_one (ps_ret pe_bl))))), ?_⟩
    have sz3 : 3 ≤ sizeLine := by rw [sizeLine_eq]; omega
    refine ⟨_, rfl, sa, ns, 0, rfl, hq, by omega, by omega, fun p H1 s1 np hp1 => ?_⟩
    refine ⟨_, rfl, _, rfl, p, _, 3, rfl, hp1, by omega, by omega, by omega, fun d2 H2 c0 c1 off2 hp2 => ⟨_, _, rfl, rfl, ?_⟩⟩
    refine ⟨p, _, 1 + d2, rfl, hp2, by omega, by omega, by omega, fun Lp zs H3 wz kb3 nLp eLp hp3 => ?_⟩
    refine ⟨3, rfl, by omega, by omega, ?_⟩
    refine for_range (lo := 0) (n := 3) (fun j σ H' => ∃ (v3 v4 v5 v6 v7 v8 v9 : Option V), σ = [some (.ref sa), some (.ref p), some (.ref Lp), v3, v4, v5, v6, v7, v8, v9] ∧ H' Lp = some (.lst (zs.map V.str)) ∧ PurseAt H' p (61 + 100 * j))
      ⟨none, none, none, none, none, none, none, rfl, eLp, hp3.mono (by omega)⟩ ?_ ?_
    · rintro j σ H4 hj ⟨v3, v4, v5, v6, v7, v8, v9, rfl, eL4, hp4⟩
      refine ⟨_, rfl, by omega, by omega, fun W nW => ?_⟩
      have nWp := (hp4.ne nW).symm
      have nWL : W ≠ Lp := fun z => by rw [z, eL4] at nW; cases nW
      have sW := same_upd (o := .lst []) nW
      refine lc_range (lo := 0) (n := 3) (KI p Lp zs (61 + 100 * j) H4 W) ⟨.of_same sW, by obtain ⟨p0, p1, p2, p3, e, r⟩ := hp4; exact ⟨p0, p1, p2, p3, sW _ _ e, r⟩, [], upd_same, rfl, fun v hv => by cases hv⟩ ?_ ?_
      · rintro i H' hi ⟨kb, hp, acc, eW, la, hal⟩
        refine ⟨rfl, _, rfl, _, rfl, sz3, fun S nS => ?_⟩
        have sS := same_upd (o := .tup sgV) nS
        have hpS := hp.upd (hp.ne nS) (o := .tup sgV)
        have eWS := sS _ _ eW
        have eLS := sS _ _ (kb _ _ eL4 nLp)
        refine ⟨p, Lp, S, _, zs, rfl, hpS, by omega, nLp, eLS, wz, upd_same, fun x t H5 hx hs kb5 hp5 => ?_⟩
        have eW5 := kb5 _ _ eWS nWp
        have tk5 : TK H' H5 := (TK.of_same sS).trans (TK.of_keepBut kb5 hpS)
        have tkw : TK H5 (upd H5 W (.lst (acc ++ [x]))) := TK.upd_lst eW5
        refine ⟨acc, eW5, by rw [sizeLine_eq]; omega, ((kb.trans (.of_same sS)).trans kb5).upd_new nW, (hp5.upd nWp.symm).mono (by omega), acc ++ [x], upd_same, by rw [List.length_append, la]; rfl, fun v hv => ?_⟩
        rcases List.mem_append.mp hv with h | h
        · obtain ⟨t', a1, a2⟩ := hal v h
          exact ⟨t', (a1.mono tk5).mono tkw, a2⟩
        · rw [List.mem_singleton.mp h]
          exact ⟨t, hx.mono tkw, hs⟩
      rintro H5 ⟨kb5, hp5, acc, eW, la, hal⟩
      obtain ⟨x0, x1, x2, rfl⟩ : ∃ x0 x1 x2, acc = [x0, x1, x2] := by
        rcases acc with _ | ⟨a, _ | ⟨b, _ | ⟨c, _ | ⟨d, r⟩⟩⟩⟩
        · cases la
        · cases la
        · cases la
        · exact ⟨a, b, c, rfl⟩
        · simp at la
      have eL5 := kb5 _ _ eL4 nLp
      refine ⟨_, rfl, p, _, 4, rfl, hp5, by omega, by omega, by omega, fun d6 H6 g0 g1 off6 hp6 => ⟨rfl, _, rfl, ?_⟩⟩
      have kb6 : KeepBut p H5 H6 := .of_off off6
      have tk6 := TK.of_keepBut kb6 hp5
      have eW6 := kb6 _ _ eW nWp
      have eL6 := kb6 _ _ eL5 nLp
      have hal6 := hal.mono tk6
      apply cutRule5 [some (.ref sa), some (.ref p), some (.ref Lp), some (.int (0 + (j : Int))), some (.ref W), v5, v6, v7, v8, v9] (fun H7 => H7 Lp = some (.lst (zs.map V.str)) ∧ PurseAt H7 p (61 + 100 * j + 50) ∧ ∃ y0 y1 y2, H7 W = some (.lst [y0, y1, y2]) ∧ AllK H7 [y0, y1, y2])
      · intro tail
        refine ite2 (fun _ => ?_) (fun _ => tail H6 ⟨eL6, hp6.mono (by omega), x0, x1, x2, eW6, hal6⟩)
        refine ⟨_, rfl, _, rfl, p, _, 3, rfl, hp6, by omega, by omega, by omega, fun d7 H7 g2 g3 off7 hp7 => ?_⟩
        have kb7 : KeepBut p H6 H7 := .of_off off7
        have eW7 := kb7 _ _ eW6 nWp
        obtain ⟨n7, rfl⟩ := Int.eq_ofNat_of_zero_le g2
        obtain ⟨y, hy⟩ : ∃ y, [x0, x1, x2][n7]? = some y := ⟨_, List.getElem?_eq_getElem (by simp only [List.length_cons, List.length_nil]; omega)⟩
        refine ⟨W, _, _, y, rfl, rfl, SqL.of eW7, atI_nat hy, _, rfl, _, rfl, p, _, 3, rfl, hp7, by omega, by omega, by omega, fun d8 H8 g4 g5 off8 hp8 => ?_⟩
        have kb8 : KeepBut p H7 H8 := .of_off off8
        have eW8 := kb8 _ _ eW7 nWp
        have eL8 := kb8 _ _ (kb7 _ _ eL6 nLp) nLp
        have hal8 := (hal6.mono (TK.of_keepBut kb7 hp6)).mono (TK.of_keepBut kb8 hp7)
        obtain ⟨n8, rfl⟩ := Int.eq_ofNat_of_zero_le g4
        refine ⟨W, _, _, n8, rfl, rfl, eW8, ?_, ?_⟩
        · unfold ixN
          rw [if_pos (by omega), if_pos (by simp only [List.length_cons, List.length_nil]; omega)]
          rfl
        have tkw : TK H8 (upd H8 W (.lst ([x0, x1, x2].set n8 y))) := TK.upd_lst eW8
        obtain ⟨y0, y1, y2, ey⟩ : ∃ y0 y1 y2, [x0, x1, x2].set n8 y = [y0, y1, y2] := by
          have h3 : n8 = 0 ∨ n8 = 1 ∨ n8 = 2 := by omega
          rcases h3 with rfl | rfl | rfl
          · exact ⟨_, _, _, rfl⟩
          · exact ⟨_, _, _, rfl⟩
          · exact ⟨_, _, _, rfl⟩
        have hset : AllK H8 [y0, y1, y2] := by
          rw [← ey]
          intro v hv
          rcases List.mem_or_eq_of_mem_set hv with h | h
          · exact hal8 v h
          · rw [h]; exact hal8 y (List.mem_of_getElem? hy)
        rw [ey] at tkw ⊢
        exact tail _ ⟨by rw [upd_ne nWL.symm]; exact eL8, (hp8.upd nWp.symm).mono (by omega), y0, y1, y2, upd_same, hset.mono tkw⟩
      · rintro H7 ⟨eL7, hp7, y0, y1, y2, eW7, hal7⟩
        refine ⟨_, rfl, W, _, rfl, SqL.of eW7, rfl, _, _, rfl, _, _, rfl, _, _, rfl, rfl, ?_⟩
        obtain ⟨t0, h0, b0⟩ := hal7 y0 (by simp)
        obtain ⟨t1, h1, b1⟩ := hal7 y1 (by simp)
        obtain ⟨t2, h2, b2⟩ := hal7 y2 (by simp)
        refine ⟨_, rfl, _, rfl, _, rfl, y0, y1, y2, t0, t1, t2, rfl, h0, h1, h2, b0, b1, b2, fun L us H8 s8 eL8 lus good => ⟨L, rfl, ⟨_, SqL.of eL8⟩, fun Z nZ => ?_⟩⟩
        refine lc_list (K := K) (xs := us) (fun i H' => Same H8 H' ∧ H' Z = some (.lst (List.replicate i (.bl true)))) ⟨same_upd nZ, upd_same⟩ (fun i H' _ q => SqL.of (q.1 _ _ eL8)) ?_ ?_
        · rintro i x H' hx ⟨sI, eZ⟩
          refine ⟨rfl, x, rfl, x, rfl, (good x (List.mem_of_getElem? hx)).same sI, fun H9 s9 => ⟨_, s9 _ _ eZ, by rw [List.length_replicate, sizeLine_eq]; have := (List.getElem?_eq_some_iff.mp hx).1; omega, same_over (sI.trans s9) nZ, ?_⟩⟩
          rw [upd_same, ← List.replicate_succ']
        rintro H9 ⟨s9, eZ⟩
        refine ⟨Z, List.replicate us.length true, rfl, SqL.of (by rw [eZ, List.map_replicate]), ?_⟩
        have e : (List.replicate us.length true).all id = true := by
          rw [List.all_eq_true]
          intro b hb
          exact (List.mem_replicate.mp hb).2
        rw [e]
        have s79 := s8.trans s9
        have t79 := TK.of_same s79
        refine ⟨true, rfl, iteF ?_⟩
        refine ⟨_, rfl, _, rfl, _, rfl, y0, y1, y2, t0, t1, t2, rfl, h0.mono t79, h1.mono t79, h2.mono t79, b0, b1, b2, fun Ha sa' => ⟨true, rfl, iteF ?_⟩⟩
        have s7a := s79.trans sa'
        have hpa : PurseAt Ha p (61 + 100 * (j + 1)) := by
          obtain ⟨p0, p1, p2, p3, e, r⟩ := hp7.mono (m := 61 + 100 * (j + 1)) (by omega)
          exact ⟨p0, p1, p2, p3, s7a _ _ e, r⟩
        exact ⟨_, _, _, _, _, _, _, rfl, s7a _ _ eL7, hpa⟩
    · rintro σ H4 _
      exact k H4
end
end S4

namespace S4
open PySem PySem.Spec PyProof.Rows L2 LamX KT
open PySem.W (Frag)
open He (dicW keysIn dicW_ok)
section
variable {K : Frag} {h : Heap} {mg : Str → Option Value} {w : World}
theorem gb5_mk {a : Addr} {od : Option Addr} {sl : Array (Option Value)} {t1 t2 t3 t4 : Tok} {n : Nat} (X : K.In h) (G : h.Ns mainGlobals mg) (s : PySem.W.nsIn K mainGlobals "_PLACED" = some (some (.ref a)))
    (k : K.lookup a = some ⟨.type "tuple", od, .seq #[.str "over used" t1, .str "under used" t2, .str "then used" t3, .str "cut" t4] n, sl⟩) : Gb5 K w mg :=
  ⟨a, PySem.W.mg_of X G s, .inr ⟨_, _, _, k, rfl, rfl, by show 4 ≤ sizeLine; rw [sizeLine_eq]; omega, .cons ⟨_, rfl⟩ (.cons ⟨_, rfl⟩ (.cons ⟨_, rfl⟩ (.cons ⟨_, rfl⟩ .nil)))⟩⟩
def nmsT : List Str := ["is", "over made", "under made", "then made", "over used", "under used", "then used", "cut"]
theorem gt5_mk {dt f1 f2 f3 f4 f5 f6 f7 f8 : Addr} (X : K.In h) (G : h.Ns mainGlobals mg) (s : PySem.W.nsIn K mainGlobals "_TELLERS" = some (some (.ref dt))) (hk : dicW K dt = some (keysIn w.params nmsT))
    (q1 : PySem.W.nsIn K dt "is" = some (some (.ref f1))) (q2 : PySem.W.nsIn K dt "over made" = some (some (.ref f2))) (q3 : PySem.W.nsIn K dt "under made" = some (some (.ref f3))) (q4 : PySem.W.nsIn K dt "then made" = some (some (.ref f4)))
    (q5 : PySem.W.nsIn K dt "over used" = some (some (.ref f5))) (q6 : PySem.W.nsIn K dt "under used" = some (some (.ref f6))) (q7 : PySem.W.nsIn K dt "then used" = some (some (.ref f7))) (q8 : PySem.W.nsIn K dt "cut" = some (some (.ref f8))) : Gt5 K w mg f1 f2 f3 f4 f5 f6 f7 f8 := by
  obtain ⟨es, n, D⟩ := dicW_ok hk
  exact ⟨dt, PySem.W.mg_of X G s, ⟨es, n, _, D.at_, D.lit, q1, rfl⟩, ⟨es, n, _, D.at_, D.lit, q2, rfl⟩, ⟨es, n, _, D.at_, D.lit, q3, rfl⟩, ⟨es, n, _, D.at_, D.lit, q4, rfl⟩, ⟨es, n, _, D.at_, D.lit, q5, rfl⟩, ⟨es, n, _, D.at_, D.lit, q6, rfl⟩, ⟨es, n, _, D.at_, D.lit, q7, rfl⟩, ⟨es, n, _, D.at_, D.lit, q8, rfl⟩⟩
theorem isStr_lit (x : Str) (t : Tok) (z : Str) : (Value.str x t).isStr z = decide (x = z) := by
  show (x == z) = _
  by_cases c : x = z
  · subst c; simp
  · simp [c]
theorem gm5_mk {d : Addr} {h1 h2 h3 h4 h5 h6 h7 h8 : Int} {t1 t2 t3 t4 t5 t6 t7 t8 u1 u2 u3 u4 u5 u6 u7 u8 : Tok} {n : Nat} (X : K.In h) (G : h.Ns mainGlobals mg) (s : PySem.W.nsIn K mainGlobals "_MANY_PARTS" = some (some (.ref d))) (hk : dicW K d = some (keysIn w.params nmsT))
    (l : K.lookup d = some ⟨.type "dict", none, .dict #[⟨h1, .str "is" t1, .int 0 u1⟩, ⟨h2, .str "over made" t2, .int 1 u2⟩, ⟨h3, .str "under made" t3, .int 1 u3⟩, ⟨h4, .str "then made" t4, .int 2 u4⟩, ⟨h5, .str "over used" t5, .int 2 u5⟩, ⟨h6, .str "under used" t6, .int 2 u6⟩, ⟨h7, .str "then used" t7, .int 1 u7⟩, ⟨h8, .str "cut" t8, .int 2 u8⟩] n, #[]⟩) : Gm5 K w mg := by
  obtain ⟨es, n', D⟩ := dicW_ok hk
  refine ⟨d, es, n', PySem.W.mg_of X G s, D, fun z => ?_⟩
  unfold PySem.W.nsIn
  rw [l]
  simp only [List.find?_cons, List.find?_nil, isStr_lit]
  unfold MANY
  by_cases c1 : z = "is"
  · subst c1; exact ⟨_, rfl, rfl, fun u e => ⟨_, rfl, by cases e; exact ⟨_, rfl⟩⟩⟩
  by_cases c2 : z = "over made"
  · subst c2; exact ⟨_, rfl, rfl, fun u e => ⟨_, rfl, by cases e; exact ⟨_, rfl⟩⟩⟩
  by_cases c3 : z = "under made"
  · subst c3; exact ⟨_, rfl, rfl, fun u e => ⟨_, rfl, by cases e; exact ⟨_, rfl⟩⟩⟩
  by_cases c4 : z = "then made"
  · subst c4; exact ⟨_, rfl, rfl, fun u e => ⟨_, rfl, by cases e; exact ⟨_, rfl⟩⟩⟩
  by_cases c5 : z = "over used"
  · subst c5; exact ⟨_, rfl, rfl, fun u e => ⟨_, rfl, by cases e; exact ⟨_, rfl⟩⟩⟩
  by_cases c6 : z = "under used"
  · subst c6; exact ⟨_, rfl, rfl, fun u e => ⟨_, rfl, by cases e; exact ⟨_, rfl⟩⟩⟩
  by_cases c7 : z = "then used"
  · subst c7; exact ⟨_, rfl, rfl, fun u e => ⟨_, rfl, by cases e; exact ⟨_, rfl⟩⟩⟩
  by_cases c8 : z = "cut"
  · subst c8; exact ⟨_, rfl, rfl, fun u e => ⟨_, rfl, by cases e; exact ⟨_, rfl⟩⟩⟩
  have d1 : ∀ x : Str, ¬ z = x → decide (x = z) = false := fun x c => decide_eq_false fun e => c e.symm
  rw [d1 _ c1, d1 _ c2, d1 _ c3, d1 _ c4, d1 _ c5, d1 _ c6, d1 _ c7, d1 _ c8, if_neg c1, if_neg c2, if_neg c3, if_neg c4, if_neg c5, if_neg c6, if_neg c7, if_neg c8]
  exact ⟨_, rfl, rfl, fun u e => by cases e⟩
end
end S4

namespace S4
open PySem PySem.Spec PyProof.Rows L2 LamX KT
open PySem.W (Frag)
section
variable {K : Frag} {h : Heap} {mg : Str → Option Value}
theorem top_mk {x : Str} {st : Stmt} {ps : List Str} {f : Addr} {od an : Option Addr} {sl : Array (Option Value)} {oc kV dc pm cd ct : Value} (X : K.In h) (G : h.Ns mainGlobals mg) (a : PySem.W.nsIn K mainGlobals x = some (some (.ref f)))
    (l : K.lookup f = some ⟨oc, od, .func (PySem.W.fnOf x x (L2.defArgs st) (L2.defBody st) (L2.defScope st) .none kV dc pm an cd ct), sl⟩) (c : PySem.W.codeIn K cd x = true) (k : PySem.W.keepIn K (.ref f) = true)
    (b : ∀ (kV doc pm : Value) (an : Option Addr) (cdv ct : Value) (us : List Value), us.length = ps.length → bindArgs (PySem.W.fnOf x x (L2.defArgs st) (L2.defBody st) (L2.defScope st) .none kV doc pm an cdv ct) ⟨us, []⟩ = pure (ps.zip us)) :
    Top K mg x st ps f (PySem.W.fnOf x x (L2.defArgs st) (L2.defBody st) (L2.defScope st) .none kV dc pm an cd ct) := by
  have F := L2.fun_mk (x := x) (qual := x) (st := st) l c k
  exact ⟨F, PySem.W.mg_of X G a, F.binds b⟩
theorem gbl_mk {t : Tok} {a : Addr} {od : Option Addr} {sl : Array (Option Value)} {t1 t2 t3 : Tok} {n : Nat} (X : K.In h) (G : h.Ns mainGlobals mg) (l : PySem.W.nsIn K mainGlobals "_LETTERS" = some (some (.str abc t))) (s : PySem.W.nsIn K mainGlobals "_SIGNS" = some (some (.ref a)))
    (k : K.lookup a = some ⟨.type "tuple", od, .seq #[.str "over" t1, .str "then" t2, .str "under" t3] n, sl⟩) : Gbl K mg :=
  ⟨⟨t, PySem.W.mg_of X G l⟩, a, PySem.W.mg_of X G s, .inr ⟨_, _, _, k, rfl, rfl, by show 3 ≤ sizeLine; rw [sizeLine_eq]; omega, .cons ⟨_, rfl⟩ (.cons ⟨_, rfl⟩ (.cons ⟨_, rfl⟩ .nil))⟩⟩
theorem end_mk {l : PySem.W.OpenLaw} {w : World} {fa : Addr} {fd : FuncData} (_T : Top K mg "law" sLaw pLaw fa fd) (hb : ∀ (s : Shared) (u : Value), BindsTo s fd ⟨[u], []⟩ [("script", u)])
    (F : ∀ base : Heap, FnOk l.prog w K mg base L2.CX0 66 fa fd ["script"] (spLaw42 K)) : LawAtS l w K L2.CX0 66 63 "script" mg fa h := by
  refine ⟨fd, [], spLaw42 K, by simp, by simp, by simp, hb, fun H a ns _ _ hH hS => ⟨a, ns, rfl, hS, fun _ => rfl⟩, fun base _ _ _ => F base⟩
end
end S4


open PySem PySem.W PyProof.Rows
set_option maxRecDepth 100000 in
set_option maxHeartbeats 0 in
theorem PySem.Challenge.cw_phrasejoins_k42_whole_steps_known_by_nam_holds : PySem.Challenge.rw_phrasejoins_k42_whole_steps_known_by_nam.Holds := by
  w_on; o_law; k_head; (case hw => w_witness2)
  k_fill
  refine LamX.walk_ofTs (l := PySem.Challenge.rw_phrasejoins_k42_whole_steps_known_by_nam) (n := 63) (k := 66) (x := "script") (CX := fun _ => L2.CX0) rfl (by decide) rfl ⟨rfl, by decide, by decide⟩ (fun w h Y => PySem.W.kIn_of Y) ?F (fun _ _ _ _ _ h => h)
  case F =>
    intro w mg fa h Y KX G hmg

    have TNodesIn := S4.top_mk (x := "nodes_in") (st := S4.sNodesIn) (ps := S4.pNodesIn) KX G (by k_is) (by k_is) (by k_is) (by k_is) (fun _ _ _ _ _ _ us hl => match us, hl with | [_, _], _ => rfl)
    have TFromInside := S4.top_mk (x := "from_inside") (st := S4.sFromInside) (ps := S4.pFromInside) KX G (by k_is) (by k_is) (by k_is) (by k_is) (fun _ _ _ _ _ _ us hl => match us, hl with | [_, _, _], _ => rfl)
    have TIsWord := S4.top_mk (x := "is_word") (st := S4.sIsWord) (ps := S4.pIsWord) KX G (by k_is) (by k_is) (by k_is) (by k_is) (fun _ _ _ _ _ _ us hl => match us, hl with | [_], _ => rfl)
    have TIsCount := S4.top_mk (x := "is_count") (st := S4.sIsCount) (ps := S4.pIsCount) KX G (by k_is) (by k_is) (by k_is) (by k_is) (fun _ _ _ _ _ _ us hl => match us, hl with | [_], _ => rfl)
    have TIsSigned := S4.top_mk (x := "_is_signed") (st := S4.sIsSigned) (ps := S4.pIsSigned) KX G (by k_is) (by k_is) (by k_is) (by k_is) (fun _ _ _ _ _ _ us hl => match us, hl with | [_], _ => rfl)
    have TIsKind := S4.top_mk (x := "is_kind") (st := S4.sIsKind) (ps := S4.pIsKind) KX G (by k_is) (by k_is) (by k_is) (by k_is) (fun _ _ _ _ _ _ us hl => match us, hl with | [_], _ => rfl)
    have TCheckKind := S4.top_mk (x := "check_kind") (st := S4.sCheckKind) (ps := S4.pCheckKind) KX G (by k_is) (by k_is) (by k_is) (by k_is) (fun _ _ _ _ _ _ us hl => match us, hl with | [_], _ => rfl)
    have THasSign := S4.top_mk (x := "has_sign") (st := S4.sHasSign) (ps := S4.pHasSign) KX G (by k_is) (by k_is) (by k_is) (by k_is) (fun _ _ _ _ _ _ us hl => match us, hl with | [_, _], _ => rfl)
    have TOver := S4.top_mk (x := "_over") (st := S4.sOver) (ps := S4.pOver) KX G (by k_is) (by k_is) (by k_is) (by k_is) (fun _ _ _ _ _ _ us hl => match us, hl with | [_, _], _ => rfl)
    have TUnder := S4.top_mk (x := "_under") (st := S4.sUnder) (ps := S4.pUnder) KX G (by k_is) (by k_is) (by k_is) (by k_is) (fun _ _ _ _ _ _ us hl => match us, hl with | [_, _], _ => rfl)
    have TRaising := S4.top_mk (x := "raising") (st := S4.sRaising) (ps := S4.pRaising) KX G (by k_is) (by k_is) (by k_is) (by k_is) (fun _ _ _ _ _ _ us hl => match us, hl with | [_, _, _], _ => rfl)
    have TComposedOver := S4.top_mk (x := "_composed_over") (st := S4.sComposedOver) (ps := S4.pComposedOver) KX G (by k_is) (by k_is) (by k_is) (by k_is) (fun _ _ _ _ _ _ us hl => match us, hl with | [_, _, _], _ => rfl)
    have TComposedUnder := S4.top_mk (x := "_composed_under") (st := S4.sComposedUnder) (ps := S4.pComposedUnder) KX G (by k_is) (by k_is) (by k_is) (by k_is) (fun _ _ _ _ _ _ us hl => match us, hl with | [_, _, _], _ => rfl)
    have TComposing := S4.top_mk (x := "composing") (st := S4.sComposing) (ps := S4.pComposing) KX G (by k_is) (by k_is) (by k_is) (by k_is) (fun _ _ _ _ _ _ us hl => match us, hl with | [_, _], _ => rfl)
    have TDividing := S4.top_mk (x := "dividing") (st := S4.sDividing) (ps := S4.pDividing) KX G (by k_is) (by k_is) (by k_is) (by k_is) (fun _ _ _ _ _ _ us hl => match us, hl with | [_, _], _ => rfl)
    have TSwapping := S4.top_mk (x := "swapping") (st := S4.sSwapping) (ps := S4.pSwapping) KX G (by k_is) (by k_is) (by k_is) (by k_is) (fun _ _ _ _ _ _ us hl => match us, hl with | [_], _ => rfl)
    have TParting := S4.top_mk (x := "parting") (st := S4.sParting) (ps := S4.pParting) KX G (by k_is) (by k_is) (by k_is) (by k_is) (fun _ _ _ _ _ _ us hl => match us, hl with | [_], _ => rfl)
    have TPacking := S4.top_mk (x := "packing") (st := S4.sPacking) (ps := S4.pPacking) KX G (by k_is) (by k_is) (by k_is) (by k_is) (fun _ _ _ _ _ _ us hl => match us, hl with | [_], _ => rfl)
    have TAreKinds := S4.top_mk (x := "are_kinds") (st := S4.sAreKinds) (ps := S4.pAreKinds) KX G (by k_is) (by k_is) (by k_is) (by k_is) (fun _ _ _ _ _ _ us hl => match us, hl with | [_], _ => rfl)
    have TIsRow := S4.top_mk (x := "is_row") (st := S4.sIsRow) (ps := S4.pIsRow) KX G (by k_is) (by k_is) (by k_is) (by k_is) (fun _ _ _ _ _ _ us hl => match us, hl with | [_], _ => rfl)
    have TCheckRow := S4.top_mk (x := "check_row") (st := S4.sCheckRow) (ps := S4.pCheckRow) KX G (by k_is) (by k_is) (by k_is) (by k_is) (fun _ _ _ _ _ _ us hl => match us, hl with | [_], _ => rfl)
    have TCheckAsked := S4.top_mk (x := "check_asked") (st := S4.sCheckAsked) (ps := S4.pCheckAsked) KX G (by k_is) (by k_is) (by k_is) (by k_is) (fun _ _ _ _ _ _ us hl => match us, hl with | [_, _], _ => rfl)
    have TPartsBegin := S4.top_mk (x := "_parts_begin") (st := S4.sPartsBegin) (ps := S4.pPartsBegin) KX G (by k_is) (by k_is) (by k_is) (by k_is) (fun _ _ _ _ _ _ us hl => match us, hl with | [_], _ => rfl)
    have TPartsOfKnot := S4.top_mk (x := "parts_of_knot") (st := S4.sPartsOfKnot) (ps := S4.pPartsOfKnot) KX G (by k_is) (by k_is) (by k_is) (by k_is) (fun _ _ _ _ _ _ us hl => match us, hl with | [_], _ => rfl)
    have THasForm := S4.top_mk (x := "_has_form") (st := S4.sHasForm) (ps := S4.pHasForm) KX G (by k_is) (by k_is) (by k_is) (by k_is) (fun _ _ _ _ _ _ us hl => match us, hl with | [_], _ => rfl)
    have TAreAllKnots := S4.top_mk (x := "_are_all_knots") (st := S4.sAreAllKnots) (ps := S4.pAreAllKnots) KX G (by k_is) (by k_is) (by k_is) (by k_is) (fun _ _ _ _ _ _ us hl => match us, hl with | [_], _ => rfl)
    have TFoldedKnots := S4.top_mk (x := "folded_knots") (st := S4.sFoldedKnots) (ps := S4.pFoldedKnots) KX G (by k_is) (by k_is) (by k_is) (by k_is) (fun _ _ _ _ _ _ us hl => match us, hl with | [_, _], _ => rfl)
    have TTellIs := S4.top_mk (x := "_tell_is") (st := S4.sTellIs) (ps := S4.pTellIs) KX G (by k_is) (by k_is) (by k_is) (by k_is) (fun _ _ _ _ _ _ us hl => match us, hl with | [_, _], _ => rfl)
    have TTellOverMade := S4.top_mk (x := "_tell_over_made") (st := S4.sTellOverMade) (ps := S4.pTellOverMade) KX G (by k_is) (by k_is) (by k_is) (by k_is) (fun _ _ _ _ _ _ us hl => match us, hl with | [_, _], _ => rfl)
    have TTellUnderMade := S4.top_mk (x := "_tell_under_made") (st := S4.sTellUnderMade) (ps := S4.pTellUnderMade) KX G (by k_is) (by k_is) (by k_is) (by k_is) (fun _ _ _ _ _ _ us hl => match us, hl with | [_, _], _ => rfl)
    have TTellThenMade := S4.top_mk (x := "_tell_then_made") (st := S4.sTellThenMade) (ps := S4.pTellThenMade) KX G (by k_is) (by k_is) (by k_is) (by k_is) (fun _ _ _ _ _ _ us hl => match us, hl with | [_, _], _ => rfl)
    have TTellOverUsed := S4.top_mk (x := "_tell_over_used") (st := S4.sTellOverUsed) (ps := S4.pTellOverUsed) KX G (by k_is) (by k_is) (by k_is) (by k_is) (fun _ _ _ _ _ _ us hl => match us, hl with | [_, _], _ => rfl)
    have TTellUnderUsed := S4.top_mk (x := "_tell_under_used") (st := S4.sTellUnderUsed) (ps := S4.pTellUnderUsed) KX G (by k_is) (by k_is) (by k_is) (by k_is) (fun _ _ _ _ _ _ us hl => match us, hl with | [_, _], _ => rfl)
    have TTellThenUsed := S4.top_mk (x := "_tell_then_used") (st := S4.sTellThenUsed) (ps := S4.pTellThenUsed) KX G (by k_is) (by k_is) (by k_is) (by k_is) (fun _ _ _ _ _ _ us hl => match us, hl with | [_, _], _ => rfl)
    have TTellCut := S4.top_mk (x := "_tell_cut") (st := S4.sTellCut) (ps := S4.pTellCut) KX G (by k_is) (by k_is) (by k_is) (by k_is) (fun _ _ _ _ _ _ us hl => match us, hl with | [_, _], _ => rfl)
    have TTell := S4.top_mk (x := "_tell") (st := S4.sTell) (ps := S4.pTell) KX G (by k_is) (by k_is) (by k_is) (by k_is) (fun _ _ _ _ _ _ us hl => match us, hl with | [_, _], _ => rfl)
    have TTellingOf := S4.top_mk (x := "telling_of") (st := S4.sTellingOf) (ps := S4.pTellingOf) KX G (by k_is) (by k_is) (by k_is) (by k_is) (fun _ _ _ _ _ _ us hl => match us, hl with | [_], _ => rfl)
    have TToldBy := S4.top_mk (x := "told_by") (st := S4.sToldBy) (ps := S4.pToldBy) KX G (by k_is) (by k_is) (by k_is) (by k_is) (fun _ _ _ _ _ _ us hl => match us, hl with | [_], _ => rfl)
    have TIsDerivationOf := S4.top_mk (x := "is_derivation_of") (st := S4.sIsDerivationOf) (ps := S4.pIsDerivationOf) KX G (by k_is) (by k_is) (by k_is) (by k_is) (fun _ _ _ _ _ _ us hl => match us, hl with | [_, _, _], _ => rfl)
    have TCutIn := S4.top_mk (x := "cut_in") (st := S4.sCutIn) (ps := S4.pCutIn) KX G (by k_is) (by k_is) (by k_is) (by k_is) (fun _ _ _ _ _ _ us hl => match us, hl with | [_, _, _], _ => rfl)
    have TLPurse := S4.top_mk (x := "_law_purse") (st := S4.sLPurse) (ps := S4.pLPurse) KX G (by k_is) (by k_is) (by k_is) (by k_is) (fun _ _ _ _ _ _ us hl => match us, hl with | [_, _], _ => rfl)
    have TLMixed := S4.top_mk (x := "_law_mixed") (st := S4.sLMixed) (ps := S4.pLMixed) KX G (by k_is) (by k_is) (by k_is) (by k_is) (fun _ _ _ _ _ _ us hl => match us, hl with | [_, _, _], _ => rfl)
    have TLDraw := S4.top_mk (x := "_law_draw") (st := S4.sLDraw) (ps := S4.pLDraw) KX G (by k_is) (by k_is) (by k_is) (by k_is) (fun _ _ _ _ _ _ us hl => match us, hl with | [_, _], _ => rfl)
    have TLOneOf := S4.top_mk (x := "_law_one_of") (st := S4.sLOneOf) (ps := S4.pLOneOf) KX G (by k_is) (by k_is) (by k_is) (by k_is) (fun _ _ _ _ _ _ us hl => match us, hl with | [_, _], _ => rfl)
    have TLSame := S4.top_mk (x := "_law_same") (st := S4.sLSame) (ps := S4.pLSame) KX G (by k_is) (by k_is) (by k_is) (by k_is) (fun _ _ _ _ _ _ us hl => match us, hl with | [_], _ => rfl)
    have TLExact := S4.top_mk (x := "_law_exact") (st := S4.sLExact) (ps := S4.pLExact) KX G (by k_is) (by k_is) (by k_is) (by k_is) (fun _ _ _ _ _ _ us hl => match us, hl with | [_, _], _ => rfl)
    have TLWord := S4.top_mk (x := "_law_word") (st := S4.sLWord) (ps := S4.pLWord) KX G (by k_is) (by k_is) (by k_is) (by k_is) (fun _ _ _ _ _ _ us hl => match us, hl with | [_], _ => rfl)
    have TLWords := S4.top_mk (x := "_law_words") (st := S4.sLWords) (ps := S4.pLWords) KX G (by k_is) (by k_is) (by k_is) (by k_is) (fun _ _ _ _ _ _ us hl => match us, hl with | [_, _], _ => rfl)
    have TLKind := S4.top_mk (x := "_law_kind") (st := S4.sLKind) (ps := S4.pLKind) KX G (by k_is) (by k_is) (by k_is) (by k_is) (fun _ _ _ _ _ _ us hl => match us, hl with | [_, _, _, _], _ => rfl)
    have TLSomeKind := S4.top_mk (x := "_law_some_kind") (st := S4.sLSomeKind) (ps := S4.pLSomeKind) KX G (by k_is) (by k_is) (by k_is) (by k_is) (fun _ _ _ _ _ _ us hl => match us, hl with | [_, _, _, _], _ => rfl)
    have TLIsKind := S4.top_mk (x := "_law_is_kind") (st := S4.sLIsKind) (ps := S4.pLIsKind) KX G (by k_is) (by k_is) (by k_is) (by k_is) (fun _ _ _ _ _ _ us hl => match us, hl with | [_], _ => rfl)
    have TLUsed := S4.top_mk (x := "_law_used") (st := S4.sLUsed) (ps := S4.pLUsed) KX G (by k_is) (by k_is) (by k_is) (by k_is) (fun _ _ _ _ _ _ us hl => match us, hl with | [_, _, _, _, _], _ => rfl)
    have TLTold := S4.top_mk (x := "_law_told") (st := S4.sLTold) (ps := S4.pLTold) KX G (by k_is) (by k_is) (by k_is) (by k_is) (fun _ _ _ _ _ _ us hl => match us, hl with | [_], _ => rfl)
    have TLNamed := S4.top_mk (x := "_law_named") (st := S4.sLNamed) (ps := S4.pLNamed) KX G (by k_is) (by k_is) (by k_is) (by k_is) (fun _ _ _ _ _ _ us hl => match us, hl with | [_, _], _ => rfl)
    have TLCases := S4.top_mk (x := "_law_cases") (st := S4.sLCases) (ps := S4.pLCases) KX G (by k_is) (by k_is) (by k_is) (by k_is) (fun _ _ _ _ _ _ us hl => match us, hl with | [_, _, _], _ => rfl)
    have TLPlainSome := S4.top_mk (x := "_law_plain_some") (st := S4.sLPlainSome) (ps := S4.pLPlainSome) KX G (by k_is) (by k_is) (by k_is) (by k_is) (fun _ _ _ _ _ _ us hl => match us, hl with | [_, _], _ => rfl)
    have TLCaseRight := S4.top_mk (x := "_law_case_right") (st := S4.sLCaseRight) (ps := S4.pLCaseRight) KX G (by k_is) (by k_is) (by k_is) (by k_is) (fun _ _ _ _ _ _ us hl => match us, hl with | [_], _ => rfl)
    have TLRoundRight := S4.top_mk (x := "_law_round_right") (st := S4.sLRoundRight) (ps := S4.pLRoundRight) KX G (by k_is) (by k_is) (by k_is) (by k_is) (fun _ _ _ _ _ _ us hl => match us, hl with | [_, _, _], _ => rfl)
    have TLaw := S4.top_mk (x := "law") (st := S4.sLaw) (ps := S4.pLaw) KX G (by k_is) (by k_is) (by k_is) (by k_is) (fun _ _ _ _ _ _ us hl => match us, hl with | [_], _ => rfl)
    have E := hmg.symm.trans TLaw.g
    cases E
    have B : S4.Blt mg := ⟨PySem.W.mg_none_of KX G (by k_is), PySem.W.mg_none_of KX G (by k_is), PySem.W.mg_none_of KX G (by k_is), PySem.W.mg_none_of KX G (by k_is), PySem.W.mg_none_of KX G (by k_is), PySem.W.mg_none_of KX G (by k_is), PySem.W.mg_none_of KX G (by k_is), PySem.W.mg_none_of KX G (by k_is), PySem.W.mg_none_of KX G (by k_is), PySem.W.mg_none_of KX G (by k_is), PySem.W.mg_none_of KX G (by k_is), PySem.W.mg_none_of KX G (by k_is), PySem.W.mg_none_of KX G (by k_is), PySem.W.mg_none_of KX G (by k_is), PySem.W.mg_none_of KX G (by k_is), PySem.W.mg_none_of KX G (by k_is), PySem.W.mg_none_of KX G (by k_is)⟩
    have GG : S4.Gbl _ mg := S4.gbl_mk KX G (by k_is) (by k_is) (by k_is)
    have GB : S4.Gb5 _ w mg := S4.gb5_mk KX G (by k_is) (by k_is)
    have GM : S4.Gm5 _ w mg := S4.gm5_mk KX G (by k_is) (by kernel_rfl) (by k_is)
    have GTl : S4.Gt5 _ w mg _ _ _ _ _ _ _ _ := S4.gt5_mk KX G (by k_is) (by kernel_rfl) (by k_is) (by k_is) (by k_is) (by k_is) (by k_is) (by k_is) (by k_is) (by k_is)
    refine S4.end_mk TLaw (fun s u => .of_eq rfl) (fun base => ?_)
    have gIsKind := S4.ok_isKindD (P := PySem.Challenge.rw_phrasejoins_k42_whole_steps_known_by_nam.prog) (w := w) (base := base) TIsKind TIsSigned TIsWord B GG
    have gParts := S4.ok_partsK (P := PySem.Challenge.rw_phrasejoins_k42_whole_steps_known_by_nam.prog) (w := w) (base := base) TPartsOfKnot TPartsBegin GB
    have gForm := S4.ok_hasForm (P := PySem.Challenge.rw_phrasejoins_k42_whole_steps_known_by_nam.prog) (w := w) (base := base) THasForm TIsKind TPartsBegin TIsCount gIsKind B GB GM
    have gAll := S4.ok_allKnots (P := PySem.Challenge.rw_phrasejoins_k42_whole_steps_known_by_nam.prog) (w := w) (base := base) TAreAllKnots THasForm TPartsOfKnot gForm gParts
    have gNodes := S4.ok_nodesK (P := PySem.Challenge.rw_phrasejoins_k42_whole_steps_known_by_nam.prog) (w := w) (base := base) TNodesIn TPartsOfKnot gParts
    have gTell := S4.ok_tell (P := PySem.Challenge.rw_phrasejoins_k42_whole_steps_known_by_nam.prog) (w := w) (base := base) TTell GTl TTellIs TTellOverMade TTellUnderMade TTellThenMade TTellOverUsed TTellUnderUsed TTellThenUsed TTellCut B
    have gIn := S4.ok_fromInsideK (P := PySem.Challenge.rw_phrasejoins_k42_whole_steps_known_by_nam.prog) (w := w) (base := base) TFromInside TNodesIn TPartsOfKnot TTell gNodes gParts gTell B
    have gFold := S4.ok_fold (P := PySem.Challenge.rw_phrasejoins_k42_whole_steps_known_by_nam.prog) (w := w) (base := base) TFoldedKnots TFromInside TPartsOfKnot gIn
    have gTelling := S4.ok_telling (P := PySem.Challenge.rw_phrasejoins_k42_whole_steps_known_by_nam.prog) (w := w) (base := base) TTellingOf TFoldedKnots TAreAllKnots TTell gFold gAll
    have gToldBy := S4.ok_toldBy (P := PySem.Challenge.rw_phrasejoins_k42_whole_steps_known_by_nam.prog) (w := w) (base := base) TToldBy TTellingOf gTelling
    have gCK := S4.ok_checkKindT (P := PySem.Challenge.rw_phrasejoins_k42_whole_steps_known_by_nam.prog) (w := w) (base := base) TCheckKind TIsKind gIsKind
    have gAK := S4.ok_areKinds (P := PySem.Challenge.rw_phrasejoins_k42_whole_steps_known_by_nam.prog) (w := w) (base := base) TAreKinds TIsKind gIsKind B
    have gIR := S4.ok_isRow (P := PySem.Challenge.rw_phrasejoins_k42_whole_steps_known_by_nam.prog) (w := w) (base := base) TIsRow TAreKinds gAK B
    have gCR := S4.ok_checkRow (P := PySem.Challenge.rw_phrasejoins_k42_whole_steps_known_by_nam.prog) (w := w) (base := base) TCheckRow TIsRow gIR
    have gAsk := S4.ok_asked (P := PySem.Challenge.rw_phrasejoins_k42_whole_steps_known_by_nam.prog) (w := w) (base := base) TCheckAsked TCheckRow TCheckKind gCR gCK
    have gIsDerOf := S4.ok_isDerOf (P := PySem.Challenge.rw_phrasejoins_k42_whole_steps_known_by_nam.prog) (w := w) (base := base) TIsDerivationOf TCheckAsked TTellingOf gAsk gTelling
    have gCnt := S4.ok_isCountD (P := PySem.Challenge.rw_phrasejoins_k42_whole_steps_known_by_nam.prog) (w := w) (base := base) TIsCount B
    have gCut := S4.ok_cutIn (P := PySem.Challenge.rw_phrasejoins_k42_whole_steps_known_by_nam.prog) (w := w) (base := base) TCutIn TToldBy TIsCount gToldBy gCnt B
    have gHS := S4.ok_hasSign (P := PySem.Challenge.rw_phrasejoins_k42_whole_steps_known_by_nam.prog) (w := w) (base := base) THasSign B
    have gO := S4.ok_over (P := PySem.Challenge.rw_phrasejoins_k42_whole_steps_known_by_nam.prog) (w := w) (base := base) TOver
    have gU := S4.ok_under (P := PySem.Challenge.rw_phrasejoins_k42_whole_steps_known_by_nam.prog) (w := w) (base := base) TUnder
    have gCO := S4.ok_compOver (P := PySem.Challenge.rw_phrasejoins_k42_whole_steps_known_by_nam.prog) (w := w) (base := base) TComposedOver TOver gO
    have gCU := S4.ok_compUnder (P := PySem.Challenge.rw_phrasejoins_k42_whole_steps_known_by_nam.prog) (w := w) (base := base) TComposedUnder TUnder gU
    have g0 := S4.ok_raising (P := PySem.Challenge.rw_phrasejoins_k42_whole_steps_known_by_nam.prog) (w := w) (base := base) TRaising TCheckKind THasSign TOver TUnder gCK gHS gO gU
    have g1 := S4.ok_composing (P := PySem.Challenge.rw_phrasejoins_k42_whole_steps_known_by_nam.prog) (w := w) (base := base) TComposing TCheckKind THasSign TComposedOver TComposedUnder gCK gHS gCO gCU
    have g2 := S4.ok_dividing (P := PySem.Challenge.rw_phrasejoins_k42_whole_steps_known_by_nam.prog) (w := w) (base := base) TDividing TCheckKind THasSign TComposedOver TComposedUnder gCK gHS gCO gCU
    have g3 := S4.ok_swapping (P := PySem.Challenge.rw_phrasejoins_k42_whole_steps_known_by_nam.prog) (w := w) (base := base) TSwapping TCheckKind THasSign TOver TUnder gCK gHS gO gU
    have g4 := S4.ok_parting (P := PySem.Challenge.rw_phrasejoins_k42_whole_steps_known_by_nam.prog) (w := w) (base := base) TParting TCheckKind THasSign gCK gHS
    have g5 := S4.ok_packing (P := PySem.Challenge.rw_phrasejoins_k42_whole_steps_known_by_nam.prog) (w := w) (base := base) TPacking TCheckKind THasSign TOver TUnder gCK gHS gO gU
    have lDraw := S4.ok_draw (P := PySem.Challenge.rw_phrasejoins_k42_whole_steps_known_by_nam.prog) (w := w) (base := base) TLDraw TLMixed B
    have lOne := S4.ok_oneOf (P := PySem.Challenge.rw_phrasejoins_k42_whole_steps_known_by_nam.prog) (w := w) (base := base) TLOneOf TLDraw TLMixed B
    have lOneT := S4.ok_oneOfT (P := PySem.Challenge.rw_phrasejoins_k42_whole_steps_known_by_nam.prog) (w := w) (base := base) TLOneOf TLDraw lDraw B
    have lWords := S4.ok_words (P := PySem.Challenge.rw_phrasejoins_k42_whole_steps_known_by_nam.prog) (w := w) (base := base) TLWords TLWord TLDraw TLMixed B
    have lPurse := S4.ok_purse (P := PySem.Challenge.rw_phrasejoins_k42_whole_steps_known_by_nam.prog) (w := w) (base := base) TLPurse B
    have lPl := S4.ok_plainSome (P := PySem.Challenge.rw_phrasejoins_k42_whole_steps_known_by_nam.prog) (w := w) (base := base) TLPlainSome TLWords TLOneOf TLDraw lDraw lOne lWords B
    have lKd := S4.ok_kindS (P := PySem.Challenge.rw_phrasejoins_k42_whole_steps_known_by_nam.prog) (w := w) (base := base) TLKind TLDraw TLOneOf lDraw lOne lOneT B 2 (by decide)
    have lSk := S4.ok_someKind (P := PySem.Challenge.rw_phrasejoins_k42_whole_steps_known_by_nam.prog) (w := w) (base := base) TLSomeKind TLKind TLDraw lDraw lKd
    have lExact := S4.ok_exact (P := PySem.Challenge.rw_phrasejoins_k42_whole_steps_known_by_nam.prog) (w := w) (base := base) TLExact B 40 (by decide)
    have lSame := S4.ok_same (P := PySem.Challenge.rw_phrasejoins_k42_whole_steps_known_by_nam.prog) (w := w) (base := base) TLSame B 30
    have lSameL := S4.ok_sameL (P := PySem.Challenge.rw_phrasejoins_k42_whole_steps_known_by_nam.prog) (w := w) (base := base) TLSame B lSame
    have lUsed := S4.ok_used (P := PySem.Challenge.rw_phrasejoins_k42_whole_steps_known_by_nam.prog) (w := w) (base := base) TLUsed
    have lTold := S4.ok_told (P := PySem.Challenge.rw_phrasejoins_k42_whole_steps_known_by_nam.prog) (w := w) (base := base) TLTold TLIsKind TLUsed B lUsed 30
    have lNamed := S4.ok_named (P := PySem.Challenge.rw_phrasejoins_k42_whole_steps_known_by_nam.prog) (w := w) (base := base) TLNamed ⟨TRaising, TComposing, TDividing, TSwapping, TParting, TPacking, g0, g1, g2, g3, g4, g5⟩
    have lCases := S4.ok_cases (P := PySem.Challenge.rw_phrasejoins_k42_whole_steps_known_by_nam.prog) (w := w) (base := base) TLCases
    have lCR := S4.ok_caseRight (P := PySem.Challenge.rw_phrasejoins_k42_whole_steps_known_by_nam.prog) (w := w) (base := base) TLCaseRight ⟨TLSame, TLNamed, TLExact, TLTold, TToldBy, TIsDerivationOf, lSameL, lNamed, lExact, lTold, gToldBy, gIsDerOf⟩
    have lRR := S4.ok_round (P := PySem.Challenge.rw_phrasejoins_k42_whole_steps_known_by_nam.prog) (w := w) (base := base) TLRoundRight TCutIn TLExact TLTold TRaising TSwapping TParting TPacking gCut lExact lTold g0 g3 g4 g5
    exact S4.ok_law42 TLaw ⟨TLPurse, TLPlainSome, TLDraw, TLSomeKind, TLCases, TLCaseRight, TLRoundRight, lPurse, lPl, lDraw, lSk, lCases, lCR, lRR⟩ B
